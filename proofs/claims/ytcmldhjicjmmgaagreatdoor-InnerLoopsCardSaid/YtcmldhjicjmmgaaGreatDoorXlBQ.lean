/- Part 43. -/
import Derived.Test.YtcmldhjicjmmgaaGreatDoorXlBN
import Derived.Test.YtcmldhjicjmmgaaGreatDoorTie
import Derived.Test.YtcmldhjicjmmgaaGreatDoorCards
import Derived.SevenTiedAt
set_option linter.unusedVariables false
set_option linter.unusedSimpArgs false
set_option maxRecDepth 100000
set_option maxHeartbeats 4000000

namespace Go.Proofs.YtcmldhjicjmmgaaGreatDoor
open Go.RowKit


theorem loops_far (a : Addr) (x n : Int) (w : World) (g : Glob a w) (g1 : decide (9000000000000000000 < x) = true) : Calls Tryz.prog 4 #[.int .i64 x,.int .u8 n] w fun e w' => e = .returned (.bool true) ∧ Below w.heap.size w w':=by
  go_enter Tryz.func4,Tryz.ntmps4;(go_wp2_with fail);refine (shown_inn a _ g).mono ?_;rintro e w1 ⟨rfl,bb⟩;go_wp2;go_ret;exact ⟨rfl,bb⟩
theorem loops_low (a : Addr) (x n : Int) (w : World) (g : Glob a w) (g1 : decide (9000000000000000000 < x) = false) (g2 : decide (x < -9000000000000000000) = true) : Calls Tryz.prog 4 #[.int .i64 x,.int .u8 n] w fun e w' => e = .returned (.bool true) ∧ Below w.heap.size w w':=by
  go_enter Tryz.func4,Tryz.ntmps4;(go_wp2_with fail);refine (shown_inn a _ g).mono ?_;rintro e w1 ⟨rfl,bb⟩;go_wp2;go_ret;exact ⟨rfl,bb⟩
theorem loops_all (a : Addr) (x n : Int) (w : World) (g : Glob a w) (hn : (Lit.int .u8 n).wf = true) : Calls Tryz.prog 4 #[.int .i64 x,.int .u8 n] w fun e w' => e = .returned (.bool true) ∧ Below w.heap.size w w':=by
  have hu:=wf_u8 hn
  by_cases c1 : 9000000000000000000 < x
  · exact loops_far a x n w g (decide_eq_true c1)
  by_cases c2 : x < -9000000000000000000
  · exact loops_low a x n w g (decide_eq_false c1) (decide_eq_true c2)
  have e : n = ((n.toNat : Nat) : Int):=by omega
  rw [e];exact loops_any a x n.toNat (n.toNat % 30) w g (by omega) (by omega) (Nat.mod_lt _ (by decide)) (by omega) (by omega) (decide_eq_false c1) (decide_eq_false c2)
end Go.Proofs.YtcmldhjicjmmgaaGreatDoor

namespace Go.Proofs.YtcmldhjicjmmgaaGreatDoor.innerLoops
open Go.ChangeShapes Go.WideShapes Go.ChangeAt Go.RowKit Go.Joins Go.Deep


theorem own : ownKnob Tryz.prog.godebug = none:=by kernel_rfl
theorem lifted (os : Os) (started : os.Started) (H : Type) (enc : TypeId × Value → H) :
    ReturnsInHanded {} Tryz.checked os 4 .any (fun w args => (Rows.innerLoopsSpec.pre enc Tryz.prog Tryz.f4 [] false w args ∧ laidMetH Tryz.prog laidL w) ∧ sizedMet enc Tryz.prog Tryz.f4 (OpenSpec.ofChange Rows.innerLoopsSpec) false w args) (Rows.innerLoopsSpec.post enc Tryz.prog Tryz.f4 false true false false):=by
  refine returnsInHanded_of_change_and (C:=Tryz.checked) (X:=fun w _ => laidMetH Tryz.prog laidL w) (fun _ _ _ hh h => h.of_heap hh) own started (by kernel_rfl) Tryz.func4
    (ChangeSpec.witness_shaped (enc:=enc) (C:=Tryz.checked) (os:=os) (X:=fun w _ => laidMetH Tryz.prog laidL w) false (World.doorLaid Tryz.prog 2000 os) #[.int .i64 0,.int .u8 0] 8 rfl (World.shaped_of_RefB (by kernel_rfl) (by kernel_rfl)) (by kernel_rfl) (by kernel_rfl) (by kernel_rfl) (door_met os _)) ?_
  intro W base args ds gs before hval0 hW _ _ hL _;have hval : ∀ (j : Nat) t v,Tryz.f4.params[j]? = some t → args[j]? = some v → Value.okWide Tryz.prog W .any base t v:=hval0;have hW':=hW;obtain ⟨a9,hG⟩:=glob_of hL;obtain ⟨p,q,hA0,hV,rfl,hfz,hnd⟩:=hW;have hA : DataW.TrodAll enc Tryz.prog W 0 (fun _ => true) true Tryz.f4.params.toList args.toList ds p:=hA0;rw [Tryz.params4] at hA hval;obtain ⟨v0,vs0,d0,ds0,p0,q0,hargs,rfl,rfl,h0,r0⟩:=trodAll_cons hA;obtain ⟨v1,vs1,d1,ds1,p1,q1,rfl,rfl,rfl,h1,r1⟩:=trodAll_cons r0;obtain ⟨rfl,rfl,rfl⟩:=trodAll_nil r1;obtain rfl : args = #[v0,v1]:=by cases args; simp_all
  obtain ⟨rfl,rfl⟩:=trodVars_none hV;obtain ⟨a0,rfl,rfl,rfl,w0⟩:=open_int Tryz.underlying3 (hval 0 3 v0 rfl rfl) h0;obtain ⟨a1,rfl,rfl,rfl,w1⟩:=open_int Tryz.underlying5 (hval 1 5 v1 rfl rfl) h1;clear hA0 hval0 hL;refine (loops_all a9 a0 a1 W hG w1).mono fun e W' ⟨he,bel⟩ => ?_
  subst he;exact ⟨_,rfl,_,_,_,[],_,[],hW',trodAll_mk1 (shut_bool Tryz.underlying4 _),(trodAll_cons_mk (shut_int Tryz.underlying3 w0) (trodAll_cons_mk (shut_int Tryz.underlying5 w1) trodAll_mk0)),rfl,bel.frame _,fun h => by cases h⟩
open Go.RowKit


theorem closed9 : joinedFacts Tryz.prog 4 Tryz.f4 Rows.innerLoopsSpec Rows.innerLoopsRow = true:=by kernel_rfl
theorem func9 : Tryz.prog.funcNamed Rows.innerLoopsRow.func = some 4:=by kernel_rfl
theorem plain (f : FuncId) (fn : Func) (hf : Tryz.pinned.checked.prog.funcNamed "detent/detentlaw12.InnerLoops" = some f) (hfn : Tryz.pinned.checked.prog.funcs[f]? = some fn) : true = Tryz.pinned.checked.prog.looks [] ∧ ∀ (j : Nat) t, fn.params[j]? = some t → Tryz.pinned.checked.prog.wantsStandIn t = false := by
  obtain rfl : f = 4 := (Option.some.inj ((show Tryz.prog.funcNamed "detent/detentlaw12.InnerLoops" = some 4 by kernel_rfl).symm.trans hf)).symm;obtain rfl : fn = Tryz.f4 := (Option.some.inj (Tryz.func4.symm.trans hfn)).symm;refine ⟨by kernel_rfl, fun j t ht => ?_⟩;rw [Tryz.params4] at ht;have hm : t ∈ [3, 5] := by simpa using Array.mem_of_getElem? ht
  have hall : ([3,5].all fun u => !Tryz.prog.wantsStandIn u) = true:=by kernel_rfl
  exact (show Tryz.prog.wantsStandIn t = false by simpa using List.all_eq_true.1 hall t hm)
end Go.Proofs.YtcmldhjicjmmgaaGreatDoor.innerLoops
