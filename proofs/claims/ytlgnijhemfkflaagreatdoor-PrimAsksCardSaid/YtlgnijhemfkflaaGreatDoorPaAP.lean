/- Part 16. -/
import Derived.Test.YtlgnijhemfkflaaGreatDoorPaAO
import Derived.Maps.Own
import Derived.Maps.Views
import Derived.Shelf.SlicesQ.Equal
import Derived.Laws.StructEq
import Derived.ArgAppend
set_option linter.unusedVariables false
set_option linter.unusedSimpArgs false
set_option maxRecDepth 100000
set_option maxHeartbeats 4000000

namespace Go.Proofs.YtlgnijhemfkflaaGreatDoor
open Go.RowKit


theorem isfrom_any (n a b : Int) (w : World) : Calls Tryz.prog 302 #[.int .i64 n,.int .i64 a,.int .i64 b] w fun e w' => e = .returned (.bool (decide (a ≤ n ∧ n ≤ b))) ∧ w = w':=by
  go_enter Tryz.func302,Tryz.ntmps302;go_wp2
  all_goals go_ret
  all_goals refine ⟨ret_bool ?_,rfl⟩
  all_goals (rw [Bool.eq_iff_iff]; simp only [decide_eq_true_eq,Bool.and_eq_true,Bool.or_eq_true,Bool.false_eq_true,true_iff,false_iff,iff_true,iff_false]; omega)
theorem iskind_any (n : Int) (w : World) : Calls Tryz.prog 288 #[.int .i64 n] w fun e w' => e = .returned (.bool (codeB n)) ∧ w = w':=by
  obtain ⟨F,hF⟩ : ∃ F,codeB n = F:=⟨_,rfl⟩;have HF:=zqh hF;rw [hF];clear hF;go_enter Tryz.func288,Tryz.ntmps288;(go_wp2_with (go_at_call 302; refine (isfrom_any _ _ _ _).mono ?_; rintro e w' ⟨rfl,rfl⟩))
  all_goals go_ret
  all_goals refine ⟨ret_bool ?_,rfl⟩
  all_goals rw [← HF.out]
  all_goals unfold codeB
  all_goals (rw [Bool.eq_iff_iff]; simp only [decide_eq_true_eq,Bool.and_eq_true,Bool.or_eq_true,Bool.false_eq_true,true_iff,false_iff,iff_true,iff_false]; omega)
theorem vkind_any (k : VmK) (m : PM) (p : Int) (w : World) (HM : Hid (IsMem w (.agg #[.slice k.mA k.mn k.mc,.slice k.pA k.pn k.pc]) m)) (hL : k.mn ≤ 65536) :
    Calls Tryz.prog 247 #[vmV k,.int .i64 p] w fun e w' => e = .returned (.tuple #[.int .i64 (kindV m k.mn p),.int .i64 (kindC m k.mn p)]) ∧ Below w.heap.size w w':=by
  have kk:=al_one w (.cells #[.int .i64 k.cm,.int .i64 k.cd,.int .i64 k.cr,.int .i64 k.cw,.int .i64 k.co,.slice k.mA k.mn k.mc,.slice k.pA k.pn k.pc,.int .i64 k.here,.slice k.dA k.dn k.dc,.slice k.rA k.rn k.rc,.slice k.fA k.fn k.fc,.slice k.wA k.wn k.wc,.int .i64 k.last,.slice k.oA k.on k.oc,.slice k.qA k.qn k.qc,.bool k.qo,.slice k.eA k.en k.ec,.int .i64 k.free,.int .i64 k.next,.int .i64 k.arg,.int .i64 k.self,.int .i64 k.now,.slice k.hA k.hn k.hc] 36);have HB:=zqh kk;have HC:=zqh (fetch_at k.mA k.pA k.mn k.mc k.pn k.pc m p _ (zqh (HM.out.keep kk)) hL);clear kk;obtain ⟨V,hV⟩ : ∃ V,kindV m k.mn p = V:=⟨_,rfl⟩;obtain ⟨E,hE⟩ : ∃ E,kindC m k.mn p = E:=⟨_,rfl⟩;have HV : Hid (V = kindV m k.mn p):=hV.symm;have HE : Hid (E = kindC m k.mn p):=hE.symm;rw [hV,hE];clear hV hE;unfold kindV at HV;unfold kindC at HE;obtain ⟨C,hC⟩ : ∃ C,cellC k.mn p = C:=⟨_,rfl⟩;obtain ⟨F,hF⟩ : ∃ F,fetchF m p = F:=⟨_,rfl⟩;rw [hC,hF] at HC HV HE;clear hC hF HM
  by_cases h0 : C = 0
  · subst h0
    obtain ⟨b,hb⟩ : ∃ b,codeB F = b:=⟨_,rfl⟩;have Hb:=zqh hb;clear hb;go_enter Tryz.func247,Tryz.ntmps247;(go_wp2_with fail);refine HC.out.mono ?_;rintro e w1 ⟨rfl,bb⟩;have HB1:=zqh (below_then HB.out bb);have HK:=zqh (iskind_any F w1);rw [Hb.out] at HK;clear bb HC;cases b with
    | true =>
      have H1 : Hid (V = F):=by show _ = _; rw [HV.out,Hb.out]; rfl
      have H2 : Hid (E = 0):=by show _ = _; rw [HE.out,Hb.out]; rfl
      clear HV HE;(go_wp2_with (go_at_call 288; refine HK.out.mono ?_; rintro e w' ⟨rfl,rfl⟩));go_ret2;exact ⟨by rw [H1.out,H2.out]; rfl,HB1.out⟩
    | false =>
      have H1 : Hid (V = 0):=by show _ = _; rw [HV.out,Hb.out]; rfl
      have H2 : Hid (E = -9):=by show _ = _; rw [HE.out,Hb.out]; rfl
      clear HV HE;(go_wp2_with (go_at_call 288; refine HK.out.mono ?_; rintro e w' ⟨rfl,rfl⟩));go_ret2;exact ⟨by rw [H1.out,H2.out]; rfl,HB1.out⟩
  · have H1 : Hid (V = 0):=by show _ = _; rw [HV.out,if_neg (fun h => h0 h.1)]
    have H2 : Hid (E = C):=by show _ = _; rw [HE.out,if_neg h0]
    have hz : (C == 0) = false:=by simpa using h0
    clear HV HE;go_enter Tryz.func247,Tryz.ntmps247;(go_wp2_with fail);refine HC.out.mono ?_;rintro e w1 ⟨rfl,bb⟩;have HB1:=zqh (below_then HB.out bb);clear bb HC;(go_wp2_with fail);go_ret2;exact ⟨by rw [H1.out,H2.out]; rfl,HB1.out⟩
def primT : List UInt8:=[10,40,101,120,105,116,41,32,40,108,105,116,41,32,40,98,114,97,110,99,104,41,32,40,48,98,114,97,110,99,104,41,32,40,100,111,41,32,40,63,100,111,41,32,40,108,111,111,112,41,32,40,43,108,111,111,112,41,32,40,104,97,108,116,41,32,40,99,97,117,103,104,116,41,10,40,100,111,101,115,41,32,40,115,116,114,41,32,69,88,69,67,85,84,69,32,67,65,84,67,72,32,84,72,82,79,87,32,73,32,74,32,85,78,76,79,79,80,32,62,82,32,82,62,10,82,64,32,50,62,82,32,50,82,62,32,68,85,80,32,68,82,79,80,32,83,87,65,80,32,79,86,69,82,32,82,79,84,32,45,82,79,84,32,78,73,80,10,84,85,67,75,32,63,68,85,80,32,50,68,85,80,32,50,68,82,79,80,32,50,83,87,65,80,32,50,79,86,69,82,32,80,73,67,75,32,82,79,76,76,32,68,69,80,84,72,32,43,10,45,32,42,32,47,32,77,79,68,32,65,78,68,32,79,82,32,88,79,82,32,76,83,72,73,70,84,32,82,83,72,73,70,84,32,77,73,78,10,77,65,88,32,61,32,60,62,32,60,32,62,32,60,61,32,62,61,32,85,60,32,85,62,32,78,69,71,65,84,69,10,65,66,83,32,73,78,86,69,82,84,32,49,43,32,49,45,32,50,42,32,50,47,32,48,61,32,48,60,32,48,60,62,32,48,62,10,67,69,76,76,83,32,67,69,76,76,43,32,65,76,73,71,78,69,68,32,47,77,79,68,32,42,47,32,42,47,77,79,68,32,85,77,42,32,85,77,47,77,79,68,32,77,42,32,83,77,47,82,69,77,10,70,77,47,77,79,68,32,83,62,68,32,87,73,84,72,73,78,32,64,32,33,32,43,33,32,67,64,32,67,33,32,50,64,32,50,33,10,70,73,76,76,32,77,79,86,69,32,67,79,85,78,84,32,72,69,82,69,32,65,76,76,79,84,32,44,32,67,44,32,65,76,73,71,78,32,66,65,83,69,32,83,84,65,84,69,10,84,82,85,69,32,70,65,76,83,69,32,66,76,32,68,69,67,73,77,65,76,32,72,69,88,32,69,77,73,84,32,67,82,32,83,80,65,67,69,32,83,80,65,67,69,83,32,84,89,80,69,10,46,32,85,46,32,60,35,32,35,32,35,83,32,72,79,76,68,32,83,73,71,78,32,35,62,32,62,66,79,68,89,32,65,66,79,82,84,10,80,79,83,84,32,65,70,84,69,82,32,69,86,69,82,89,32,67,65,78,67,69,76,32,65,82,71,32,83,69,76,70,32,78,79,87,32,83,69,84,45,83,84,65,84,69,32,65,84,45,83,84,65,84,69,32,71,69,84,45,83,84,65,84,69,10]
theorem prim_fields : Lib.fields primT = primL:=by kernel_rfl
theorem names_any (w : World) (HT : Tab w) : Calls Tryz.prog 25 #[] w fun e w' => e = .returned (.slice (some ⟨w.heap.size,0,none⟩) 130 130) ∧ Sts w' (.slice (some ⟨w.heap.size,0,none⟩) 130 130) primL ∧ Below w.heap.size w w':=by
  have HC:=zqh (fields_any primT w (by rw [show primT.length = 623 from by kernel_rfl]; decide) (by kernel_rfl) HT primL prim_fields);clear HT;go_enter Tryz.func25,Tryz.ntmps25;(go_wp2_with fail);refine HC.out.mono ?_;rintro e w1 ⟨rfl,rfl⟩;(go_wp2_with fail);go_ret;exact ⟨rfl,sts_block (l:=primL) (one_newN w _ _) (by decide),al_one _ _⟩
theorem start_any (w : World) : Calls Tryz.prog 124 #[] w fun e w' => e = .returned (.int .i64 1368) ∧ w = w':=by
  go_enter Tryz.func124,Tryz.ntmps124;go_wp2;go_ret;exact ⟨rfl,rfl⟩
end Go.Proofs.YtlgnijhemfkflaaGreatDoor

namespace Go.Proofs.YtlgnijhemfkflaaGreatDoor
open Go.RowKit Go.Maps Go.WideMaps


def MapF (w : World) (b n : Nat) (D : DataW Unit) (f : List UInt8 → Int) : Prop:=w.ownsMap Tryz.prog 9 (plainElem Tryz.prog 3) b n D ∧ IsMap D ∧ ∀ s,D.atKey (.string s) (.lit (.int .i64 0)) = .lit (.int .i64 (f s))
theorem MapF.kept {w w' : World} {b n : Nat} {D : DataW Unit} {f : List UInt8 → Int} (h : MapF w b n D f) (x : Below w.heap.size w w') : MapF w' b n D f :=
  ⟨h.1.kept (row:=none) ⟨x.os,x.tape,x.output,x.size,fun k hk _ => x.block k hk⟩ (by simp),h.2⟩
theorem Tab.grown {w w' : World} {b n : Nat} {D : DataW Unit} {f : List UInt8 → Int} (h : Tab w) (hm : MapF w b n D f) (g : w.grownBy w' (some b)) : Tab w':=fun c hc => by
  refine g.cell (h c hc) ?_;show some 0 ≠ some b;intro e;injection e with e
  have hx:=h c hc;obtain ⟨es,clock,hb,_⟩:=hm.1;rw [← e] at hb;unfold World.cell? at hx;rw [hb] at hx;cases hx
end Go.Proofs.YtlgnijhemfkflaaGreatDoor

namespace Go.Proofs.YtlgnijhemfkflaaGreatDoor
open Go.RowKit


def HdAt (w : World) (b : Nat) (r : List UInt8) (q : Nat) (w1 : World) : Prop:=∃ A P L c K d m,At b A P L c K d m w1 ∧ m.1 = r ∧ m.2.length ≤ q ∧ r.length = 1368 ∧ w.heap.size ≤ b ∧ Below w.heap.size w w1
theorem HdAt.keep {w W W' : World} {b q : Nat} {r : List UInt8} (h : HdAt w b r q W) (x : Below W.heap.size W W') : HdAt w b r q W':=by
  obtain ⟨A,P,L,c,K,d,m,h1,h2,h3,h4,h5,h6⟩:=h;exact ⟨A,P,L,c,K,d,m,h1.keep x,h2,h3,h4,h5,below_then h6 x⟩
end Go.Proofs.YtlgnijhemfkflaaGreatDoor

namespace Go.Proofs.YtlgnijhemfkflaaGreatDoor
open Go.RowKit


theorem WOwns.block {w : World} {base n : Nat} {v : Value} {l : List Wr} (h : WOwns w base v n l) (hn : 0 < n) : ∃ g cap,v = .slice (some ⟨g,0,none⟩) n cap ∧ base ≤ g ∧ g < w.heap.size ∧ ∀ k,k < n → (∃ x,w.cell? ⟨g,k * 3 + 2,none⟩ = some x) ∧ w.frozen? ⟨g,k * 3 + 2,none⟩ = false:=by
  rcases h.2 with ⟨_,h0⟩ | ⟨g,cap,cur,e,hb,hg,hnc,hcm,hcs,ht⟩
  · omega
  · refine ⟨g,cap,e,hb,(Array.getElem?_eq_some_iff.1 hg).1,fun k hk => ?_⟩
    have hks : k * 3 + 2 < cur.size:=by omega
    refine ⟨⟨cur[k * 3 + 2],by simp [World.cell?,hg,hks]⟩,by simp [World.frozen?,hg]⟩
end Go.Proofs.YtlgnijhemfkflaaGreatDoor

namespace Go.Proofs.YtlgnijhemfkflaaGreatDoor
open Go.RowKit


def Tn (w : World) (p q r : Addr) : Prop:=w.cell? p = some (.int .u8 97) ∧ w.cell? q = some (.int .u8 122) ∧ w.cell? r = some (.int .u8 65)
def TnB (w : World) (p q r : Nat) : Prop:=Tn w ⟨p,0,none⟩ ⟨q,0,none⟩ ⟨r,0,none⟩ ∧ p < w.heap.size ∧ q < w.heap.size ∧ r < w.heap.size
theorem TnB.keep {w w' : World} {p q r : Nat} (h : TnB w p q r) (b : Below w.heap.size w w') : TnB w' p q r:=by
  obtain ⟨⟨h1,h2,h3⟩,h4,h5,h6⟩:=h;have hz:=b.size;exact ⟨⟨(b.cell (p:=⟨p,0,none⟩) h4).trans h1,(b.cell (p:=⟨q,0,none⟩) h5).trans h2,(b.cell (p:=⟨r,0,none⟩) h6).trans h3⟩,by omega,by omega,by omega⟩
def Rw (w : World) (g C : Nat) (l : List UInt8) : Prop:=∃ X : Array Value,w.heap[g]? = some (.cells ((u8s l).toArray ++ X) 5 (C,C + 1)) ∧ l.length ≤ C ∧ C ≤ maxLen
theorem Rw.lt {w : World} {g C : Nat} {l : List UInt8} (h : Rw w g C l) : g < w.heap.size:=by
  obtain ⟨X,h1,_⟩:=h;exact (Array.getElem?_eq_some_iff.1 h1).1
theorem Rw.use {w : World} {g C : Nat} {l : List UInt8} (h : Rw w g C l) {k : Nat} {c : UInt8} (hk : l[k]? = some c) : w.cell? ⟨g,k,none⟩ = some (.int .u8 (c.toNat : Int)) ∧ w.frozen? ⟨g,k,none⟩ = false:=by
  obtain ⟨X,h1,h2,h3⟩:=h;have hkl:=(List.getElem?_eq_some_iff.1 hk).1;have e : ((u8s l).toArray ++ X)[k]? = some (.int .u8 (c.toNat : Int)):=by
    rw [Array.getElem?_append_left (by simpa [u8s] using hkl)];simp [u8s,hk]
  refine ⟨by simp [World.cell?,h1,e],?_⟩;simp [World.frozen?,h1];omega
theorem Rw.keep {w w' : World} {g C : Nat} {l : List UInt8} (h : Rw w g C l) (b : Below w.heap.size w w') : Rw w' g C l:=by
  have hl:=h.lt;obtain ⟨X,h1,h2⟩:=h;exact ⟨X,(b.block g hl).trans h1,h2⟩
theorem Rw.set {w : World} {g C : Nat} {l : List UInt8} (h : Rw w g C l) {k : Nat} (hk : k < l.length) (c : UInt8) : Rw (w.setCell ⟨g,k,none⟩ (.int .u8 (c.toNat : Int))) g C (l.set k c):=by
  obtain ⟨X,h1,h2,h3⟩:=h;obtain ⟨hlt,hc⟩:=Array.getElem?_eq_some_iff.1 h1;refine ⟨X,?_,by rw [List.length_set]; exact h2,h3⟩;show (w.heap.modify g _)[g]? = _;rw [Array.getElem?_eq_getElem (by rw [Array.size_modify]; exact hlt),Array.getElem_modify_self,hc];simp [u8s,List.set_append_left,hk,List.map_set]
theorem Rw.byt {w : World} {g C : Nat} {l : List UInt8} (h : Rw w g C l) : Byt w (.slice (some ⟨g,0,none⟩) l.length C) l:=by
  have hlt:=h.lt;refine ⟨_,_,rfl,h.choose_spec.2.1,h.choose_spec.2.2,.inr ⟨g,0,rfl,hlt,fun j v hv => ?_⟩⟩;unfold u8s at hv;rw [List.getElem?_map] at hv;cases hj : l[j]? with
  | none => rw [hj] at hv; simp at hv
  | some c =>
    rw [hj] at hv;have : v = .int .u8 (c.toNat : Int):=by simpa using hv.symm
    rw [this,Nat.zero_add];exact (h.use hj).1
end Go.Proofs.YtlgnijhemfkflaaGreatDoor

namespace Go.Proofs.YtlgnijhemfkflaaGreatDoor
open Go.RowKit


def wfullAt (A : Option Addr) (n : Nat) : Option Addr:=if n = 0 then A else A.map (·.add (0 * 3))
theorem Wds.full {w : World} {A : Option Addr} {n c : Nat} {l : List Wr} (h : Wds w (.slice A n c) l) : Wds w (.slice (wfullAt A n) n n) l:=by
  have hl:=h.len;subst hl;obtain ⟨A',c',e,h1,h2,h4⟩:=h;injection e with e1 e2 e3
  subst e1 e3;refine ⟨_,_,rfl,Nat.le_refl _,by omega,?_⟩
  rcases h4 with h4 | ⟨g,o,rfl,hg,hc⟩
  · exact .inl h4
  · unfold wfullAt
    split
    · exact .inr ⟨g,o,rfl,hg,hc⟩
    · exact .inr ⟨g,o,by simp [add_at],hg,hc⟩
theorem Wds.room {w : World} {A : Option Addr} {n c : Nat} {l : List Wr} (h : Wds w (.slice A n c) l) : n ≤ c:=by
  have hl:=h.len;obtain ⟨A',c',e,h1,_⟩:=h;injection e with e1 e2 e3
  omega
end Go.Proofs.YtlgnijhemfkflaaGreatDoor

namespace Go.Proofs.YtlgnijhemfkflaaGreatDoor
open Go.RowKit


theorem VBox.cell_is {w : World} {b : Nat} {k : VmK} (h : VBox w b k) {i : Nat} {v : Value} (hc : w.cell? ⟨b,i,none⟩ = some v) : v ∈ vmC k:=by
  unfold VBox at h;unfold World.cell? at hc;rw [h] at hc;exact Array.mem_of_getElem? hc
theorem VBox.no_u8 {w : World} {b : Nat} {k : VmK} (h : VBox w b k) {i : Nat} {x : Int} : w.cell? ⟨b,i,none⟩ ≠ some (.int .u8 x):=by
  intro hc;have:=h.cell_is hc;simp at this
theorem VBox.no_str {w : World} {b : Nat} {k : VmK} (h : VBox w b k) {i : Nat} {x : ByteArray} : w.cell? ⟨b,i,none⟩ ≠ some (.string x):=by
  intro hc;have:=h.cell_is hc;simp at this
theorem lies_row {w : World} {b : Nat} {A : Option Addr} {xs : List Value} (h : Lies w A xs) (cs : Array Value) (hb : ∀ i v,xs[0]? = some v → w.cell? ⟨b,i,none⟩ ≠ some v) : Lies (w.setRow b cs) A xs:=by
  rcases h with h | ⟨g,o,e,hg,hc⟩
  · exact .inl h
  · cases hx : xs with
    | nil => exact .inl rfl
    | cons y ys =>
      right;have h0 : xs[0]? = some y:=by rw [hx]; rfl
      have hne : g ≠ b:=by
        rintro rfl;exact hb _ _ h0 (hc 0 y h0)
      refine ⟨g,o,e,by rw [size_setRow]; exact hg,fun j v hv => ?_⟩;have:=hc j v (by rw [hx]; exact hv);unfold World.cell? at this ⊢;rw [setRow_other _ _ _ _ hne];exact this
theorem Byt.vrow {w : World} {b : Nat} {k : VmK} {v : Value} {l : List UInt8} (h : Byt w v l) (hb : VBox w b k) (cs : Array Value) : Byt (w.setRow b cs) v l:=by
  obtain ⟨A,c,e,h1,h2,h3⟩:=h;refine ⟨A,c,e,h1,h2,lies_row h3 cs fun i v hv => ?_⟩;cases l with
  | nil => simp [u8s] at hv
  | cons x xs =>
    simp [u8s] at hv;rw [← hv];exact hb.no_u8
theorem Wds.vrow {w : World} {b : Nat} {k : VmK} {v : Value} {l : List Wr} (h : Wds w v l) (hb : VBox w b k) (cs : Array Value) : Wds (w.setRow b cs) v l:=by
  obtain ⟨A,c,e,h1,h2,h3⟩:=h;refine ⟨A,c,e,h1,h2,lies_row h3 cs fun i v hv => ?_⟩;cases l with
  | nil => simp [wds] at hv
  | cons x xs =>
    simp [wds,wcell] at hv;rw [← hv];exact hb.no_str
end Go.Proofs.YtlgnijhemfkflaaGreatDoor

namespace Go.Proofs.YtlgnijhemfkflaaGreatDoor
open Go.RowKit


structure Lens (k : VmK) (L : VmL) : Prop where
  m : L.m.1.length = k.mn
  d : L.d.length = k.dn
  r : L.r.length = k.rn
  f : L.f.length = k.fn
  dict : L.dict.length = k.wn
  o : L.o.length = k.on
  q : L.q.length = k.qn
  e : L.e.length = k.en
  h : L.h.length = k.hn
theorem IsVm.lens {w : World} {k : VmK} {L : VmL} (h : IsVm w k L) : Lens k L:=⟨h.m.len1,h.d.1,h.r.1,h.f.len,h.dict.len,h.o.len,h.q.len,h.e.len,h.h.len⟩
end Go.Proofs.YtlgnijhemfkflaaGreatDoor

namespace Go.Proofs.YtlgnijhemfkflaaGreatDoor
open Go.RowKit


theorem vprint_any (k : VmK) (l s : List UInt8) (w : World) (hn : k.on ≤ 65536) (h0 : 0 ≤ k.co) (h6 : k.co ≤ 65536) (hs : s.length ≤ 100000) (HR : Hid (Byt w (.slice k.oA k.on k.oc) l)) :
    Calls Tryz.prog 232 #[vmV k,.string (strB s)] w fun e w' => ∃ B m d,e = .returned (.tuple #[vmV { k with oA:=B,on:=m,oc:=d },.int .i64 (printC l s k.co)]) ∧ Byt w' (.slice B m d) (printL l s k.co) ∧ Below w.heap.size w w':=by
  have hl:=HR.out.len;have hsz : (strB s).size = s.length:=rfl
  by_cases h : k.co - (k.on : Int) < (s.length : Int)
  · have H1 : Hid (printC l s k.co = -260):=if_pos (by rw [hl]; exact h)
    have H2 : Hid (printL l s k.co = l):=if_pos (by rw [hl]; exact h);rw [H1.out];have kr:=al_two w (.cells #[.int .i64 k.cm,.int .i64 k.cd,.int .i64 k.cr,.int .i64 k.cw,.int .i64 k.co,.slice k.mA k.mn k.mc,.slice k.pA k.pn k.pc,.int .i64 k.here,.slice k.dA k.dn k.dc,.slice k.rA k.rn k.rc,.slice k.fA k.fn k.fc,.slice k.wA k.wn k.wc,.int .i64 k.last,.slice k.oA k.on k.oc,.slice k.qA k.qn k.qc,.bool k.qo,.slice k.eA k.en k.ec,.int .i64 k.free,.int .i64 k.next,.int .i64 k.arg,.int .i64 k.self,.int .i64 k.now,.slice k.hA k.hn k.hc] 36) (.cells #[.int .i64 0,.int .i64 0,.int .i64 0,.int .i64 0,.int .i64 0,.slice none 0 0,.slice none 0 0,.int .i64 0,.slice none 0 0,.slice none 0 0,.slice none 0 0,.slice none 0 0,.int .i64 0,.slice none 0 0,.slice none 0 0,.bool false,.slice none 0 0,.int .i64 0,.int .i64 0,.int .i64 0,.int .i64 0,.int .i64 0,.slice none 0 0] 36);have HPr : Hid (VBox ((w.alloc (.cells #[.int .i64 k.cm,.int .i64 k.cd,.int .i64 k.cr,.int .i64 k.cw,.int .i64 k.co,.slice k.mA k.mn k.mc,.slice k.pA k.pn k.pc,.int .i64 k.here,.slice k.dA k.dn k.dc,.slice k.rA k.rn k.rc,.slice k.fA k.fn k.fc,.slice k.wA k.wn k.wc,.int .i64 k.last,.slice k.oA k.on k.oc,.slice k.qA k.qn k.qc,.bool k.qo,.slice k.eA k.en k.ec,.int .i64 k.free,.int .i64 k.next,.int .i64 k.arg,.int .i64 k.self,.int .i64 k.now,.slice k.hA k.hn k.hc] 36)).alloc (.cells #[.int .i64 0,.int .i64 0,.int .i64 0,.int .i64 0,.int .i64 0,.slice none 0 0,.slice none 0 0,.int .i64 0,.slice none 0 0,.slice none 0 0,.slice none 0 0,.slice none 0 0,.int .i64 0,.slice none 0 0,.slice none 0 0,.bool false,.slice none 0 0,.int .i64 0,.int .i64 0,.int .i64 0,.int .i64 0,.int .i64 0,.slice none 0 0] 36)) w.heap.size k):=(vbox_new w k).keep (al_one _ _)
    have HXr : Hid (VBox ((w.alloc (.cells #[.int .i64 k.cm,.int .i64 k.cd,.int .i64 k.cr,.int .i64 k.cw,.int .i64 k.co,.slice k.mA k.mn k.mc,.slice k.pA k.pn k.pc,.int .i64 k.here,.slice k.dA k.dn k.dc,.slice k.rA k.rn k.rc,.slice k.fA k.fn k.fc,.slice k.wA k.wn k.wc,.int .i64 k.last,.slice k.oA k.on k.oc,.slice k.qA k.qn k.qc,.bool k.qo,.slice k.eA k.en k.ec,.int .i64 k.free,.int .i64 k.next,.int .i64 k.arg,.int .i64 k.self,.int .i64 k.now,.slice k.hA k.hn k.hc] 36)).alloc (.cells #[.int .i64 0,.int .i64 0,.int .i64 0,.int .i64 0,.int .i64 0,.slice none 0 0,.slice none 0 0,.int .i64 0,.slice none 0 0,.slice none 0 0,.slice none 0 0,.slice none 0 0,.int .i64 0,.slice none 0 0,.slice none 0 0,.bool false,.slice none 0 0,.int .i64 0,.int .i64 0,.int .i64 0,.int .i64 0,.int .i64 0,.slice none 0 0] 36)) (w.heap.size + 1) vm0):=by have:=vbox_zero (w.alloc (.cells #[.int .i64 k.cm,.int .i64 k.cd,.int .i64 k.cr,.int .i64 k.cw,.int .i64 k.co,.slice k.mA k.mn k.mc,.slice k.pA k.pn k.pc,.int .i64 k.here,.slice k.dA k.dn k.dc,.slice k.rA k.rn k.rc,.slice k.fA k.fn k.fc,.slice k.wA k.wn k.wc,.int .i64 k.last,.slice k.oA k.on k.oc,.slice k.qA k.qn k.qc,.bool k.qo,.slice k.eA k.en k.ec,.int .i64 k.free,.int .i64 k.next,.int .i64 k.arg,.int .i64 k.self,.int .i64 k.now,.slice k.hA k.hn k.hc] 36)); rw [World.size_alloc] at this; exact this
    have HBr:=zqh kr;clear hl kr;go_enter Tryz.func232,Tryz.ntmps232
    go_wp2_with (first
    | (refine wpList_load_row rfl 36 _ rfl w.heap.size rfl _ _ _ _ HPr.out Tryz.underlying36 rfl (by kernel_rfl) ?_)
    | (refine wpList_store_row rfl 36 _ _ rfl (w.heap.size + 1) (vmC k) rfl rfl _ _ HXr.out (by kernel_rfl) rfl (vm_one _) ?_))
    refine bodyPost_ret (res_ct rfl _ _ _ _ rfl (vrow HXr.out k)) rfl ⟨k.oA,k.on,k.oc,rfl,?_,?_⟩
    · rw [H2.out]
      exact HR.out.keep (below_setRow HBr.out (by omega) _)
    · exact below_setRow HBr.out (by omega) _
  · have H1 : Hid (printC l s k.co = 0):=if_neg (by rw [hl]; exact h)
    have H2 : Hid (printL l s k.co = l ++ s):=if_neg (by rw [hl]; exact h);rw [H1.out];have h' : decide (k.co - (k.on : Int) < (s.length : Int)) = false:=by simp; omega
    obtain ⟨o1,ho1⟩ : ∃ o1 : Obj,(.cells #[.int .i64 k.cm,.int .i64 k.cd,.int .i64 k.cr,.int .i64 k.cw,.int .i64 k.co,.slice k.mA k.mn k.mc,.slice k.pA k.pn k.pc,.int .i64 k.here,.slice k.dA k.dn k.dc,.slice k.rA k.rn k.rc,.slice k.fA k.fn k.fc,.slice k.wA k.wn k.wc,.int .i64 k.last,.slice k.oA k.on k.oc,.slice k.qA k.qn k.qc,.bool k.qo,.slice k.eA k.en k.ec,.int .i64 k.free,.int .i64 k.next,.int .i64 k.arg,.int .i64 k.self,.int .i64 k.now,.slice k.hA k.hn k.hc] 36) = o1:=⟨_,rfl⟩;obtain ⟨o2,ho2⟩ : ∃ o2 : Obj,(.cells #[.int .i64 0,.int .i64 0,.int .i64 0,.int .i64 0,.int .i64 0,.slice none 0 0,.slice none 0 0,.int .i64 0,.slice none 0 0,.slice none 0 0,.slice none 0 0,.slice none 0 0,.int .i64 0,.slice none 0 0,.slice none 0 0,.bool false,.slice none 0 0,.int .i64 0,.int .i64 0,.int .i64 0,.int .i64 0,.int .i64 0,.slice none 0 0] 36) = o2:=⟨_,rfl⟩;obtain ⟨W,hW⟩ : ∃ W,(w.alloc o1).alloc o2 = W:=⟨_,rfl⟩;have kk:=al_two w o1 o2;have hx : VBox ((w.alloc o1).alloc o2) w.heap.size k ∧ VBox ((w.alloc o1).alloc o2) (w.heap.size + 1) vm0:=by rw [← ho1,← ho2]; exact ⟨(vbox_new w k).keep (al_one _ _),by have:=vbox_zero (w.alloc (.cells #[.int .i64 k.cm,.int .i64 k.cd,.int .i64 k.cr,.int .i64 k.cw,.int .i64 k.co,.slice k.mA k.mn k.mc,.slice k.pA k.pn k.pc,.int .i64 k.here,.slice k.dA k.dn k.dc,.slice k.rA k.rn k.rc,.slice k.fA k.fn k.fc,.slice k.wA k.wn k.wc,.int .i64 k.last,.slice k.oA k.on k.oc,.slice k.qA k.qn k.qc,.bool k.qo,.slice k.eA k.en k.ec,.int .i64 k.free,.int .i64 k.next,.int .i64 k.arg,.int .i64 k.self,.int .i64 k.now,.slice k.hA k.hn k.hc] 36)); rwa [World.size_alloc] at this⟩
    rw [hW] at kk hx;have HB:=zqh kk;have HP:=zqh hx.1;have HX:=zqh hx.2;have HW : Hid ((w.alloc (.cells #[.int .i64 k.cm,.int .i64 k.cd,.int .i64 k.cr,.int .i64 k.cw,.int .i64 k.co,.slice k.mA k.mn k.mc,.slice k.pA k.pn k.pc,.int .i64 k.here,.slice k.dA k.dn k.dc,.slice k.rA k.rn k.rc,.slice k.fA k.fn k.fc,.slice k.wA k.wn k.wc,.int .i64 k.last,.slice k.oA k.on k.oc,.slice k.qA k.qn k.qc,.bool k.qo,.slice k.eA k.en k.ec,.int .i64 k.free,.int .i64 k.next,.int .i64 k.arg,.int .i64 k.self,.int .i64 k.now,.slice k.hA k.hn k.hc] 36)).alloc (.cells #[.int .i64 0,.int .i64 0,.int .i64 0,.int .i64 0,.int .i64 0,.slice none 0 0,.slice none 0 0,.int .i64 0,.slice none 0 0,.slice none 0 0,.slice none 0 0,.slice none 0 0,.int .i64 0,.slice none 0 0,.slice none 0 0,.bool false,.slice none 0 0,.int .i64 0,.int .i64 0,.int .i64 0,.int .i64 0,.int .i64 0,.slice none 0 0] 36) = W):=by show _ = _; rw [ho1,ho2]; exact hW
    have hS : W.heap.size = w.heap.size + 1 + 1:=by rw [← hW]; simp
    have HS:=zqh hS;obtain ⟨cc,w9,hcv,hby,hb9⟩:=conv_in s W (by omega);have HQ:=pair_new w9 (.slice k.oA k.on k.oc) (.slice (some ⟨W.heap.size,0,none⟩) s.length cc) 24;have ka:=below_then hb9 (al_one w9 (.cells #[.slice k.oA k.on k.oc,.slice (some ⟨W.heap.size,0,none⟩) s.length cc] 24));have HC:=zqh (bcat_any _ _ _ _ _ _ l s w9.heap.size _ HQ.1 HQ.2 ((HR.out.keep kk).keep ka) (hby.keep (al_one w9 _)) (by omega) (by omega));have HKA:=zqh ka;have HX9:=zqh hb9.size;obtain ⟨p0,p1,p2,p3,p4,p5,p6,p7,p8,p9,p10,p11,p12,p13,p14,p15,p16,p17,p18,p19,p20,p21,p22⟩:=HP.out.use;clear hl h kk hx hW ho1 ho2 hS hby hb9 HQ ka;go_enter Tryz.func232,Tryz.ntmps232;go_upto_region 3 with fail
    rw [HW.out];(go_wp2_with fail);refine HC.out.mono ?_;rintro e w4 ⟨v,rfl,o4,b4⟩;obtain ⟨B,m,d,rfl⟩:=byt_slice o4.byt;obtain rfl : (l ++ s).length = m:=o4.byt.len;have hfr:=own_from o4;have HF : Hid (∀ b,B = some b → W.heap.size ≤ b.block):=(fun b e => by have h1:=hfr b.block (by rw [e]; rfl); have h2:=HX9.out; rw [World.size_alloc] at h1; omega);have HR4:=zqh o4.byt;have bb:=below_then HKA.out b4;have XP:=zqh (HP.out.keep bb);have XZ:=zqh (HX.out.keep bb);clear p0 p1 p2 p3 p4 p5 p6 p7 p8 p9 p10 p11 p12 p13 p14 p15 p16 p17 p18 p19 p20 p21 p22;obtain ⟨p0,p1,p2,p3,p4,p5,p6,p7,p8,p9,p10,p11,p12,p13,p14,p15,p16,p17,p18,p19,p20,p21,p22⟩:=XP.out.use;obtain ⟨f0,f1,f2,f3,f4,f5,f6,f7,f8,f9,f10,f11,f12,f13,f14,f15,f16,f17,f18,f19,f20,f21,f22⟩:=XP.out.free;have YP:=zqh (XP.out.set_o B (l ++ s).length d);have YZ : Hid (VBox (w4.setCell ⟨w.heap.size,13,none⟩ (.slice B (l ++ s).length d)) (w.heap.size + 1) vm0):=by show VBox _ _ _; unfold VBox; rw [Below.heap_setCell _ _ _ _ (by simp)]; exact XZ.out
    have lp:=XP.out.lt;have HB2:=zqh bb;obtain ⟨ln,hln⟩ : ∃ n,(l ++ s).length = n:=⟨_,rfl⟩;rw [hln] at YP YZ HR4 ⊢;clear hfr o4 b4 bb HC hcv hln
    go_wp2_with (first
    | (refine wpList_load_row rfl 36 _ rfl w.heap.size rfl _ _ _ _ YP.out Tryz.underlying36 rfl (by kernel_rfl) ?_)
    | (refine wpList_store_row rfl 36 _ _ rfl (w.heap.size + 1) (vmC { k with oA:=B,on:=ln,oc:=d }) rfl rfl _ _ YZ.out (by kernel_rfl) rfl (vm_one _) ?_))
    have YF:=zqh (vrow YZ.out { k with oA:=B,on:=ln,oc:=d });refine bodyPost_ret (res_ct rfl _ _ _ _ rfl YF.out) rfl ⟨B,ln,d,rfl,?_,?_⟩
    · rw [H2.out]
      refine HR4.out.fresh (W:=W) HF.out (by rw [size_setRow]; simp [World.setCell]) fun g hg hlt => ?_
      rw [setRow_other _ _ _ _ (by have:=HS.out; omega),Below.heap_setCell _ _ _ _ (by have:=HS.out; show g ≠ w.heap.size; omega)]
    · exact below_setRow ((below_then HB.out HB2.out).setCell (p:=⟨w.heap.size,13,none⟩) (Nat.le_refl _) _) (by omega) _
end Go.Proofs.YtlgnijhemfkflaaGreatDoor

namespace Go.Proofs.YtlgnijhemfkflaaGreatDoor
open Go.RowKit


abbrev PicOut (o : Bool) (l' : List UInt8) (k : Int) (w : World) (e : Ending) (w' : World) : Prop:=∃ A' n' c',e = .returned (.tuple #[.agg #[.slice A' n' c',.bool o],.int .i64 k]) ∧ Byt w' (.slice A' n' c') l' ∧ Below w.heap.size w w'
end Go.Proofs.YtlgnijhemfkflaaGreatDoor
