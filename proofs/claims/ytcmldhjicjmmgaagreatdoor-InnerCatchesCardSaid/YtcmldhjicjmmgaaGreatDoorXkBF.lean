/- Part 32. -/
import Derived.ChangeSlices
import Derived.Test.YtcmldhjicjmmgaaGreatDoorXkBE
import Derived.Test.YtcmldhjicjmmgaaGreatDoorTie
import Derived.Test.YtcmldhjicjmmgaaGreatDoorCards
import Derived.SevenTiedAt
set_option linter.unusedVariables false
set_option linter.unusedSimpArgs false
set_option maxRecDepth 100000
set_option maxHeartbeats 4000000

namespace Go.Proofs.YtcmldhjicjmmgaaGreatDoor
open Go.ChangeShapes Go.WideShapes Go.ChangeAt Go.RowKit Go.Joins Go.Deep


theorem catches_far (a : Addr) (A : Option Addr) (nd cd : Nat) (n j : Int) (w : World) (g : Glob a w) (g1 : decide ((10 : Int) < (nd : Int)) = true) : Calls Tryz.prog 3 #[.slice A nd cd,.int .i64 n,.int .u8 j] w fun e w' => e = .returned (.bool true) ∧ Below w.heap.size w w':=by
  go_enter Tryz.func3,Tryz.ntmps3;(go_wp2_with fail);refine (shown_inn a _ g).mono ?_;rintro e w1 ⟨rfl,bb⟩;go_wp2;go_ret;exact ⟨rfl,bb⟩
theorem catches_all (a : Addr) (A : Option Addr) (nd cd : Nat) (d : List Int) (n j : Int) (w : World) (g : Glob a w) (h : Row w A nd cd d) (hc : ∀ x ∈ d,cellR x) (hn : (Lit.int .i64 n).wf = true) (hj : (Lit.int .u8 j).wf = true) : Calls Tryz.prog 3 #[.slice A nd cd,.int .i64 n,.int .u8 j] w fun e w' => e = .returned (.bool true) ∧ Below w.heap.size w w':=by
  have q0:=wf_i64 hn;have q1:=wf_u8 hj
  by_cases c1 : (10 : Int) < (nd : Int)
  · exact catches_far a A nd cd n j w g (decide_eq_true c1)
  have e : j = ((j.toNat : Nat) : Int):=by omega
  rw [e];exact catches_any a A nd cd d n j.toNat (j.toNat % 5) w g (zqh h) (by omega) (Nat.mod_lt _ (by decide)) (by omega) (by omega) (decide_eq_false c1) (zqh hc) (zqh (by unfold cellR; omega))
section
variable {H : Type} {enc : TypeId × Value → H} {w : World}
theorem open_row9 {fuel : Nat} {v : Value} {x : DataW H × List MemPlace} (h : DataW.trod enc Tryz.prog w 0 (fun _ => true) true fuel 22 [v] = some x) : ∃ A n c l,v = .slice A n c ∧ Row w A n c l ∧ ∀ x ∈ l,cellR x:=by
  rcases open_ints Tryz.underlying22 Tryz.underlying3 (by kernel_rfl) h with ⟨hcs,_⟩ | ⟨a,len,cap,zs,hcs,_,hl,hm,hz,_,hcell,hwz⟩
  · simp at hcs
    exact ⟨_,_,_,_,hcs,row_nil w,fun x hx => by cases hx⟩
  · simp at hcs hz
    refine ⟨_,_,_,zs.take len,hcs,⟨by simp; omega,hl,hm,?_⟩,fun x hx => wf_i64 (hwz x (List.mem_of_mem_take hx))⟩
    by_cases h0 : len = 0
    · subst h0; exact .inl (by simp [ints])
    · obtain ⟨b,off,rfl,hb⟩:=plain_of (hcell 0 (by omega))
      refine .inr ⟨b,off,rfl,hb,fun j v hv => ?_⟩;have hj : j < len:=by have:=(List.getElem?_eq_some_iff.1 hv).1; rw [ints_len] at this; simp at this; omega
      have hjz : j < zs.length:=by omega
      have hc:=hcell j hjz;rw [add_at] at hc;rw [hc];simp [ints,hj,hjz] at hv;rw [← hv];simp [List.getD,List.getElem?_eq_getElem hjz]
end
end Go.Proofs.YtcmldhjicjmmgaaGreatDoor

namespace Go.Proofs.YtcmldhjicjmmgaaGreatDoor.innerCatches
open Go.ChangeShapes Go.WideShapes Go.ChangeAt Go.RowKit Go.Joins Go.Deep


theorem own : ownKnob Tryz.prog.godebug = none:=by kernel_rfl
theorem laidOut : laidOutB Tryz.prog = true:=by kernel_rfl
theorem lifted (os : Os) (started : os.Started) (H : Type) (enc : TypeId × Value → H) :
    ReturnsInHanded {} Tryz.checked os 3 .any (fun w args => (Rows.innerCatchesSpec.pre enc Tryz.prog Tryz.f3 [] false w args ∧ laidMetH Tryz.prog laidL w) ∧ sizedMet enc Tryz.prog Tryz.f3 (OpenSpec.ofChange Rows.innerCatchesSpec) false w args) (Rows.innerCatchesSpec.post enc Tryz.prog Tryz.f3 false true false false):=by
  refine returnsInHanded_of_change_and (C:=Tryz.checked) (X:=fun w _ => laidMetH Tryz.prog laidL w) (fun _ _ _ hh h => h.of_heap hh) own started (by kernel_rfl) Tryz.func3
    (ChangeSpec.witness_shaped (enc:=enc) (C:=Tryz.checked) (os:=os) (X:=fun w _ => laidMetH Tryz.prog laidL w) false (World.doorLaid Tryz.prog 2000 os) #[.slice none 0 0,.int .i64 0,.int .u8 0] 8 rfl (World.shaped_of_RefB (by kernel_rfl) (by kernel_rfl)) (by kernel_rfl) (by kernel_rfl) (by kernel_rfl) (door_met os _)) ?_
  intro W base args ds gs before hval0 hW _ _ hL _;have hval : ∀ (j : Nat) t v,Tryz.f3.params[j]? = some t → args[j]? = some v → Value.okWide Tryz.prog W .any base t v:=hval0;have hW':=hW;obtain ⟨a9,hG⟩:=glob_of hL;obtain ⟨p,q,hA0,hV,rfl,hfz,hnd⟩:=hW;have hA : DataW.TrodAll enc Tryz.prog W 0 (fun _ => true) true Tryz.f3.params.toList args.toList ds p:=hA0;rw [Tryz.params3] at hA hval;obtain ⟨v0,vs0,d0,ds0,p0,q0,hargs,rfl,rfl,h0,r0⟩:=trodAll_cons hA;obtain ⟨v1,vs1,d1,ds1,p1,q1,rfl,rfl,rfl,h1,r1⟩:=trodAll_cons r0;obtain ⟨v2,vs2,d2,ds2,p2,q2,rfl,rfl,rfl,h2,r2⟩:=trodAll_cons r1;obtain ⟨rfl,rfl,rfl⟩:=trodAll_nil r2;obtain rfl : args = #[v0,v1,v2]:=by cases args; simp_all
  obtain ⟨rfl,rfl⟩:=trodVars_none hV;obtain ⟨A0,n0,c0,rfl⟩:=okWide_slice Tryz.underlying22 (hval 0 22 v0 rfl rfl);have k0:=h0;have lt0 : ∀ x ∈ p0,x.block < W.heap.size:=by obtain ⟨m,hm⟩:=k0; exact DataW.trod_lt m _ _ _ hm
  obtain ⟨l0,R0,w0⟩ : ∃ l,Row W A0 n0 c0 l ∧ ∀ x ∈ l,cellR x:=by
    obtain ⟨fuel,hf⟩:=h0;obtain ⟨A',n',c',l,e,ha,hq⟩:=open_row9 hf;injection e with e1 e2 e3
    subst e1 e2 e3;exact ⟨l,ha,hq⟩
  obtain ⟨a1,rfl,rfl,rfl,w1⟩:=open_int Tryz.underlying3 (hval 1 3 v1 rfl rfl) h1;obtain ⟨a2,rfl,rfl,rfl,w2⟩:=open_int Tryz.underlying5 (hval 2 5 v2 rfl rfl) h2;clear hA0 hval0 hL;refine (catches_all a9 A0 n0 c0 l0 a1 a2 W hG R0 w0 w1 w2).mono fun e W' ⟨he,bel⟩ => ?_
  subst he;exact ⟨_,rfl,_,_,_,[],_,[],hW',trodAll_mk1 (shut_bool Tryz.underlying4 _),(trodAll_cons_mk (Below.trod laidOut (by kernel_rfl) (of_decide_eq_true (by kernel_rfl)) k0 bel lt0) (trodAll_cons_mk (shut_int Tryz.underlying3 w1) (trodAll_cons_mk (shut_int Tryz.underlying5 w2) trodAll_mk0))),rfl,bel.frame _,fun h => by cases h⟩
open Go.RowKit


theorem closed9 : joinedFacts Tryz.prog 3 Tryz.f3 Rows.innerCatchesSpec Rows.innerCatchesRow = true:=by kernel_rfl
theorem func9 : Tryz.prog.funcNamed Rows.innerCatchesRow.func = some 3:=by kernel_rfl
theorem plain (f : FuncId) (fn : Func) (hf : Tryz.pinned.checked.prog.funcNamed "detent/detentlaw12.InnerCatches" = some f) (hfn : Tryz.pinned.checked.prog.funcs[f]? = some fn) : true = Tryz.pinned.checked.prog.looks [] ∧ ∀ (j : Nat) t, fn.params[j]? = some t → Tryz.pinned.checked.prog.wantsStandIn t = false := by
  obtain rfl : f = 3 := (Option.some.inj ((show Tryz.prog.funcNamed "detent/detentlaw12.InnerCatches" = some 3 by kernel_rfl).symm.trans hf)).symm;obtain rfl : fn = Tryz.f3 := (Option.some.inj (Tryz.func3.symm.trans hfn)).symm;refine ⟨by kernel_rfl, fun j t ht => ?_⟩;rw [Tryz.params3] at ht;have hm : t ∈ [22, 3, 5] := by simpa using Array.mem_of_getElem? ht
  have hall : ([22,3,5].all fun u => !Tryz.prog.wantsStandIn u) = true:=by kernel_rfl
  exact (show Tryz.prog.wantsStandIn t = false by simpa using List.all_eq_true.1 hall t hm)
end Go.Proofs.YtcmldhjicjmmgaaGreatDoor.innerCatches
