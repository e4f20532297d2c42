/- Part 14. -/
import Derived.Test.YtcmldhjicjmmgaaGreatDoorXkAM
set_option linter.unusedVariables false
set_option linter.unusedSimpArgs false
set_option maxRecDepth 100000
set_option maxHeartbeats 4000000

namespace Go.Proofs.YtcmldhjicjmmgaaGreatDoor
open Go.RowKit


def RowN (b : Nat) (w : World) (A : Option Addr) (n c : Nat) (l : List Int) : Prop:=Row w A n c l ∧ ∀ q,A = some q → b ≤ q.block
theorem RowN.le {b b' : Nat} {w : World} {A : Option Addr} {n c : Nat} {l : List Int} (h : RowN b w A n c l) (hb : b' ≤ b) : RowN b' w A n c l:=⟨h.1,fun q e => Nat.le_trans hb (h.2 q e)⟩
theorem Owns.new {w : World} {base n m d : Nat} {B : Option Addr} {v : Value} {l : List Int} (h : Owns w base v n l) (e : v = .slice B m d) : ∀ q,B = some q → base ≤ q.block:=by
  intro q eq;subst eq e;exact own_fromS h q.block rfl
theorem Owns.rowN {w : World} {base n b : Nat} {v : Value} {l : List Int} (h : Owns w base v n l) (hb : b ≤ base) : ∃ A c,v = .slice A n c ∧ RowN b w A n c l:=by
  obtain ⟨A,c,rfl,hr⟩:=h.row;exact ⟨A,c,rfl,hr,fun q e => Nat.le_trans hb (h.new rfl q e)⟩
set_option maxHeartbeats 8000000 in
theorem told_okN (A : Option Addr) (low c k : Nat) (l : List Int) (idx : List Nat) (t a b : ByteArray) (w : World) (hn : low + k ≤ 65536) (hk0 : 0 < k) (HT : Hid (TellsS t a b k idx)) (HR : Hid (Row w A (low + k) c l)) :
    Calls Tryz.prog 265 #[.string t,.slice A (low + k) c] w fun e w' => ∃ B d,e = .returned (.tuple #[.slice B (low + idx.length) d,.int .i64 0]) ∧ RowN w.heap.size w' B (low + idx.length) d (leftL l low idx) ∧ Below w.heap.size w w':=by
  obtain ⟨i,hi⟩:=HT.out.cuts;have HC:=zqh hi;have ha : a.size = k:=HT.out.takes;have h4:=HT.out.four;have hlc : (low : Int) ≤ (c : Int):=by have:=HR.out.2.1; omega
  have hcm : (c : Int) ≤ 9223372036854775807:=by have:=HR.out.2.2.1; unfold maxLen at this; omega
  have HB : Hid (b.size = idx.length):=HT.out.leaves;have HF:=HT.out.few;have HH:=zqh (HR.out.high (k:=low) (by omega));obtain ⟨g,o,rfl,hg,hce⟩:=HR.out.cells (by omega);have HCE:=zqh hce;clear hi hce;go_enter Tryz.func265,Tryz.ntmps265;(go_wp2_with (go_at_call 288; ((with_reducible refine (cut_any t a b i _ HC).mono ?_); rintro e w1 ⟨rfl,bb⟩)));have B1:=zqh bb;clear bb;(go_wp2_with fail);refine (own_any _ _ _ (l.take low) _ (by omega) (zqh (HH.out.keep B1.out))).mono ?_;rintro e w2 ⟨g2,rfl,ho,b2⟩;have B2:=zqh (below_thenS B1.out b2);have HO : Hid (Owns w2 w.heap.size (.slice (some ⟨g2,0,none⟩) low low) low (l.take low)):=by
    have hs:=B1.out.size;refine ⟨ho.1,?_⟩
    rcases ho.2 with h | ⟨g3,cap,cur,e,hb,hr⟩
    · exact .inl h
    · exact .inr ⟨g3,cap,cur,e,by omega,hr⟩
  clear ho b2;(go_wp2_with fail)
  go_loopw [10] (fun s0 wr => ∃ (j : Nat) (v : Value),v = s0 ∧ j ≤ idx.length ∧ Hid (Owns wr w.heap.size v (low + j) (leftL l low (idx.take j))) ∧ Hid (wr.heap[w2.heap.size]? = some (.stringIter b j)) ∧ Hid (Below w.heap.size w wr)) (fun _ wr => idx.length - wr.iterPos w2.heap.size)
  case atStart =>
    refine ⟨0,_,rfl,by omega,zqh ?_,zqh (World.iter_heap w2 b 0),zqh (below_thenS B2.out (below_one _ _))⟩;have : leftL l low (idx.take 0) = l.take low:=by simp [leftL]
    rw [this,Nat.add_zero];exact HO.out.alloc _
  case round =>
    obtain ⟨j,v,hv0,hj,HW,HI,HD⟩:=hrel;subst hv0;have hq:=HI.out;have hsz : w2.heap.size < wr.heap.size:=(Array.getElem?_eq_some_iff.1 hq).1
    by_cases hlt : j < idx.length
    · have hb : j < b.size:=by rw [HB.out]; exact hlt
      obtain ⟨ix,hix⟩ : ∃ ix,idx[j]? = some ix:=⟨_,List.getElem?_eq_getElem hlt⟩;have hsg:=HT.out.sign j hb ix hix;have hik:=HT.out.most j ix hix;have hnx : ∀ ty,(Instr.next (.pointer (some ⟨w2.heap.size,0,none⟩)) true ty).run Tryz.prog wr = .ok (.tuple #[.bool true,.int .i64 j,.int .i32 ((ix : Int) + 97)]) (wr.iterAt w2.heap.size b (j + 1)):=fun ty => by
        rw [Lib.run_next_ascii_at wr w2.heap.size b j ty hq hb (by omega),hsg];rfl
      have HX:=zqh hix;have hs1 : (wr.iterAt w2.heap.size b (j + 1)).heap.size = wr.heap.size:=Lib.iterAt_size _ _ _ _;have hD1 : Below w.heap.size w (wr.iterAt w2.heap.size b (j + 1)):=Lib.below_iterAt HD.out B2.out.size b (j + 1);have hne:=HW.out.noIter hq;have HW1 : Hid (Owns (wr.iterAt w2.heap.size b (j + 1)) w.heap.size v (low + j) (leftL l low (idx.take j))):=HW.out.other (fun g hg => Lib.iterAt_other _ _ _ _ _ (fun e => hne (by rw [hg,e])));have hI1:=Lib.iterAt_heap wr w2.heap.size b j (j + 1) hq;obtain ⟨y,hy⟩ : ∃ y,l.getD (low + ix) 0 = y:=⟨_,rfl⟩;have HY:=zqh hy;obtain ⟨W,hW⟩ : ∃ W,wr.iterAt w2.heap.size b (j + 1) = W:=⟨_,rfl⟩;rw [hW] at hnx hs1 hD1 HW1 hI1;have hc : W.cell? ⟨g,o + (low + ix),none⟩ = some (.int .i64 y):=by
        rw [← hy];exact (hD1.cell (p:=⟨g,o + (low + ix),none⟩) hg).trans (HCE.out (low + ix) (by omega))
      have HI1:=zqh hI1;have HD1:=zqh hD1;have HS1:=zqh hs1;have HNE:=zqh hne;have i0 : (low : Int) + (ix : Int) < (low : Int) + (k : Int):=by omega
      have i1 : (0 : Int) ≤ (low : Int) + (ix : Int):=by omega
      have i2 : ((low : Int) + (ix : Int)).toNat = low + ix:=by omega
      clear hsg hix hne hI1 hy hW hq hD1 hs1;(go_wp2_with (at_builtin; (refine wpList_app_g rfl _ _ rfl w.heap.size v (low + j) _ rfl (HW1.out.alloc _) (some ⟨W.heap.size,0,none⟩) 1 1 [y] rfl (one_row W y) (by omega) (by have:=HD1.out.size; simp; omega) ?_; intro v2 w3 ho hgr; have HO2:=zqh ho; have HG2:=zqh hgr; clear ho hgr)))
      go_roundw
      case rel =>
        have ha1 : W.heap.size ≤ (W.alloc (.cells #[.int .i64 y] 3)).heap.size:=by simp
        refine ⟨j + 1,_,rfl,by omega,zqh ?_,zqh ?_,zqh ?_⟩
        · rw [leftL_step HX.out,HY.out,← Nat.add_assoc]; exact HO2.out
        · rw [HG2.out.block _ (by have:=HS1.out; simp; omega) (fun e => HNE.out e.symm)]
          exact (below_one W _).block _ (by have:=HS1.out; omega) |>.trans HI1.out
        · exact app_below (HW1.out.alloc _) (below_thenS HD1.out (below_one _ _)) HG2.out (Nat.le_refl _)
      case measure =>
        have e1 : w3.heap[w2.heap.size]? = some (.stringIter b (j + 1)):=by
          rw [HG2.out.block _ (by have:=HS1.out; simp; omega) (fun e => HNE.out e.symm)];exact (below_one W _).block _ (by have:=HS1.out; omega) |>.trans HI1.out
        simp only [World.iterPos,e1,HI.out];omega
    · have hje : j = idx.length:=by omega
      have hnx : ∀ ty,(Instr.next (.pointer (some ⟨w2.heap.size,0,none⟩)) true ty).run Tryz.prog wr = .ok (.tuple #[.bool false]) wr:=fun ty => Lib.run_next_end_at wr w2.heap.size b j ty hq (by rw [HB.out]; omega)
      have HJ:=zqh hje;obtain ⟨B,d,rfl,hr⟩:=(HW.out.rowN (Nat.le_refl _));have HR2:=zqh hr;clear hje hq hr hlt;go_wp2;go_ret2;have z:=HJ.out;subst z;have e:=HR2.out;rw [List.take_length] at e;exact ⟨_,_,rfl,e,HD.out⟩
set_option maxHeartbeats 8000000 in
theorem doubled_noneN (A : Option Addr) (c : Nat) (w : World) (HR : Hid (Row w A 0 c [])) :
    Calls Tryz.prog 266 #[.slice A 0 c] w fun e w' => ∃ B m d,e = .returned (.tuple #[.slice B m d,.int .i64 (-4)]) ∧ RowN w.heap.size w' B m d [] ∧ Below w.heap.size w w':=by
  go_enter Tryz.func266,Tryz.ntmps266;(go_wp2_with fail);refine (pop_none _ _ _ HR).mono ?_;rintro e w1 ⟨B,m,d,rfl,hr,bb⟩;have B1:=zqh bb;clear hr bb;(go_wp2_with fail);refine (own_any _ _ _ [] _ (by omega) (zqh (HR.out.keep B1.out))).mono ?_;rintro e w2 ⟨g,rfl,ho,b2⟩;have HO:=zqh (ho.rowN B1.out.size);clear ho;(go_wp2_with fail);go_ret2;obtain ⟨B,d,e,hr⟩:=HO.out;injection e with e1 e2 e3
  subst e1 e3;exact ⟨_,_,_,rfl,hr,below_thenS B1.out b2⟩
set_option maxHeartbeats 8000000 in
theorem doubled_zeroN (A : Option Addr) (k c : Nat) (l : List Int) (w : World) (hn : k + 1 ≤ 65536) (HR : Hid (Row w A (k + 1) c l)) (HY : Hid (l.getD k 0 = 0)) :
    Calls Tryz.prog 266 #[.slice A (k + 1) c] w fun e w' => ∃ B m d,e = .returned (.tuple #[.slice B m d,.int .i64 0]) ∧ RowN w.heap.size w' B m d l ∧ Below w.heap.size w w':=by
  go_enter Tryz.func266,Tryz.ntmps266;(go_wp2_with fail);refine (pop_one _ _ _ _ _ _ hn HR HY).mono ?_;rintro e w1 ⟨B,d,rfl,hr,bb⟩;have B1:=zqh bb;clear hr bb;(go_wp2_with fail);refine (own_any _ _ _ l _ hn (zqh (HR.out.keep B1.out))).mono ?_;rintro e w2 ⟨g,rfl,ho,b2⟩;have HO:=zqh (ho.rowN B1.out.size);clear ho;(go_wp2_with fail);go_ret2;obtain ⟨B,d,e,hr⟩:=HO.out;injection e with e1 e2 e3
  subst e1 e3;exact ⟨_,_,_,rfl,hr,below_thenS B1.out b2⟩
set_option maxHeartbeats 8000000 in
theorem doubled_otherN (A : Option Addr) (k c : Nat) (l : List Int) (y : Int) (w : World) (hn : k + 1 ≤ 65536) (hy : (y == 0) = false) (HR : Hid (Row w A (k + 1) c l)) (HY : Hid (l.getD k 0 = y)) :
    Calls Tryz.prog 266 #[.slice A (k + 1) c] w fun e w' => ∃ B m d,e = .returned (.tuple #[.slice B m d,.int .i64 0]) ∧ RowN w.heap.size w' B m d (l ++ [y]) ∧ Below w.heap.size w w':=by
  go_enter Tryz.func266,Tryz.ntmps266;(go_wp2_with fail);refine (pop_one _ _ _ _ _ _ hn HR HY).mono ?_;rintro e w1 ⟨B,d,rfl,hr,bb⟩;have B1:=zqh bb;clear hr bb;(go_wp2_with fail);refine (with_anyS _ _ _ y l _ hn (zqh (HR.out.keep B1.out))).mono ?_;rintro e w2 ⟨g,rfl,ho,b2⟩;have HO:=zqh (ho.rowN B1.out.size);clear ho;(go_wp2_with fail);go_ret2;obtain ⟨B,d,e,hr⟩:=HO.out;injection e with e1 e2 e3
  subst e1 e3;exact ⟨_,_,_,rfl,hr,below_thenS B1.out b2⟩
set_option maxHeartbeats 8000000 in
theorem picked_okN (A : Option Addr) (p y c : Nat) (l : List Int) (w : World) (hn : p + y + 2 ≤ 65536) (HR : Hid (Row w A (p + 1 + y + 1) c l)) (HY : Hid (l.getD (p + 1 + y) 0 = (y : Int))) :
    Calls Tryz.prog 267 #[.slice A (p + 1 + y + 1) c] w fun e w' => ∃ B m d,e = .returned (.tuple #[.slice B m d,.int .i64 0]) ∧ RowN w.heap.size w' B m d (l.take (p + 1 + y) ++ [l.getD p 0]) ∧ Below w.heap.size w w':=by
  obtain ⟨x,hx⟩ : ∃ x,l.getD p 0 = x:=⟨_,rfl⟩;rw [hx];have HX:=zqh hx;clear hx;go_enter Tryz.func267,Tryz.ntmps267;(go_wp2_with fail);refine (numbered_ok _ p y _ l _ hn HR HY).mono ?_;rintro e w1 ⟨B,d,rfl,hr,bb⟩;obtain ⟨g,o,rfl,hg,hce⟩:=hr.cells (by omega);have kc:=hce p (by omega);rw [take_getD (by omega),HX.out] at kc;have HR1:=zqh hr;have B1:=zqh bb;have hp : (p : Int) < (p : Int) + 1 + (y : Int):=by omega
  clear hr hce bb;(go_wp2_with fail);refine (with_anyS _ _ _ x _ _ (by omega) HR1).mono ?_;rintro e w2 ⟨g,rfl,ho,b2⟩;have HO:=zqh (ho.rowN B1.out.size);clear ho;(go_wp2_with fail);go_ret2;obtain ⟨B,d,e,hr⟩:=HO.out;injection e with e1 e2 e3
  subst e1 e3;exact ⟨_,_,_,rfl,hr,below_thenS B1.out b2⟩
set_option maxHeartbeats 8000000 in
theorem rolled_okN (A : Option Addr) (p y c : Nat) (l : List Int) (w : World) (hn : p + y + 2 ≤ 65536) (HR : Hid (Row w A (p + 1 + y + 1) c l)) (HY : Hid (l.getD (p + 1 + y) 0 = (y : Int))) :
    Calls Tryz.prog 268 #[.slice A (p + 1 + y + 1) c] w fun e w' => ∃ B m d,e = .returned (.tuple #[.slice B m d,.int .i64 0]) ∧ RowN w.heap.size w' B m d ((l.take p ++ (l.take (p + 1 + y)).drop (p + 1)) ++ [l.getD p 0]) ∧ Below w.heap.size w w':=by
  obtain ⟨x,hx⟩ : ∃ x,l.getD p 0 = x:=⟨_,rfl⟩;rw [hx];have HX:=zqh hx;clear hx;go_enter Tryz.func268,Tryz.ntmps268;(go_wp2_with fail);refine (numbered_ok _ p y _ l _ hn HR HY).mono ?_;rintro e w1 ⟨B,d,rfl,hr,bb⟩;have hd1 : (p : Int) ≤ (d : Int):=by have:=hr.2.1; omega
  have hd2 : (d : Int) ≤ 9223372036854775807:=by have:=hr.2.2.1; unfold maxLen at this; omega
  have HT : Hid (Row w1 B p d (l.take p)):=by
    have:=hr.high (k:=p) (by omega)
    rwa [List.take_take,Nat.min_eq_left (by omega)] at this
  have HD : Hid (Row w1 (restAt B (p + 1) d) y (d - (p + 1)) ((l.take (p + 1 + y)).drop (p + 1))):=by
    have:=hr.rest (k:=p + 1) (by omega)
    rwa [show p + 1 + y - (p + 1) = y by omega] at this
  have hsl : ∀ w,(Instr.slice 22 (.slice B (p + 1 + y) d) (some (.int .i64 ((p : Int) + 1))) none none).run Tryz.prog w = .ok (.slice (restAt B (p + 1) d) y (d - (p + 1))) w:=fun w => by
    have:=run_rest (A:=B) (c:=d) w (show p + 1 ≤ p + 1 + y by omega)
    rwa [show p + 1 + y - (p + 1) = y by omega] at this
  have hw1 : IntKind.i64.wrap ((p : Int) + 1) = (p : Int) + 1:=IntWalk.i64_in _ (by omega);have hw2 : (0 : Int) ≤ (p : Int) + 1:=by omega
  obtain ⟨R,hRe⟩ : ∃ R,restAt B (p + 1) d = R:=⟨_,rfl⟩;obtain ⟨q,hqe⟩ : ∃ q,d - (p + 1) = q:=⟨_,rfl⟩;rw [hRe,hqe] at hsl HD;obtain ⟨g,o,hB,hg,hce⟩:=hr.cells (by omega);have kc:=hce p (by omega);rw [take_getD (by omega),HX.out] at kc;have HKC:=zqh kc;have HBe:=zqh hB;have HG:=zqh hg;have B1:=zqh bb;have hp : (p : Int) < (p : Int) + 1 + (y : Int):=by omega
  have SD : Hid (∀ a,Since w1 a → Since w1 a.drew):=zqh fun a h => h.drew
  clear hr hce bb kc hB hg hRe hqe;(go_wp2_with fail);refine wp_region_noPanic ?_
  go_region_held3 (fun a => Since w1 a) (first | assumption | exact SD.out _ (Below.refl _ _))
    (first
      | (go_at_call 86; have s4 : Since w1 _:=(by assumption); ((with_reducible refine (own_any _ _ _ (l.take p) _ (by omega) (zqh (HT.out.keep s4.bel))).mono ?_); rintro e w5 ⟨g5,rfl,ho,b5⟩; have s5:=s4.then b5; have HO:=zqh ho; clear ho s4))
      | ((refine step_app rfl _ _ rfl w1.heap.size (.slice (some ⟨g5,0,none⟩) p p) p (l.take p) rfl HO.out R y q _ rfl (HD.out.keep s5.bel) (by omega) s5.bel.size w1 s5.bel (Nat.le_refl _) ?_; intro v1 w6 ho b1; have s6 : Since w1 w6:=b1; have HO2:=zqh ho; clear ho b1)))
  all_goals (refine NoPanic.normal ?_)
  all_goals (have z:=HBe.out; subst z; clear HBe)
  all_goals (have kc:=s6.cell HG.out HKC.out)
  all_goals (have HS6:=zqh s6; have HG6:=zqh (below_thenS B1.out s6); clear s6)
  all_goals go_wp2_with (at_builtin; (refine wpList_app rfl _ _ rfl w1.heap.size v1 (p + y) _ rfl (HO2.out.alloc _) (some ⟨w6.heap.size,0,none⟩) 1 1 [x] rfl (one_row w6 x) (by omega) (by have:=HS6.out.bel.size; simp; omega) w1 (below_thenS HS6.out.bel (below_one _ _)) (Nat.le_refl _) ?_; intro v2 w7 ho b2; (obtain ⟨B2,d2,rfl,hr⟩:=(ho.rowN B1.out.size)); have HO3:=zqh hr; have HB3:=zqh b2; clear ho hr b2))
  all_goals go_ret2
  all_goals exact ⟨_,_,_,rfl,HO3.out,below_thenS B1.out HB3.out⟩
def AnsN (z : Bool) (code : Int) (o : List Int) (w : World) (e : Ending) (w' : World) : Prop:=∃ B m d,e = .returned (.tuple #[.slice B m d,.bool z,.int .i64 code]) ∧ (code = 0 → z = true → RowN w.heap.size w' B m d o) ∧ Below w.heap.size w w'
def GotN (code : Int) (o : List Int) (w : World) (e : Ending) (w' : World) : Prop:=∃ B m d,e = .returned (.tuple #[.slice B m d,.int .i64 code]) ∧ Hid (code = 0 → RowN w.heap.size w' B m d o) ∧ Below w.heap.size w w'
set_option maxHeartbeats 8000000 in
theorem turned_textN (A : Option Addr) (n c j : Nat) (s t : ByteArray) (code : Int) (o : List Int) (w : World) (hf : Instr.findNow .string (.string s) textsE.toList 0 = some (some (j,.string t)))
    (HC : Hid (∀ w1,Below w.heap.size w w1 → Calls Tryz.prog 265 #[.string t,.slice A n c] w1 (GotN code o w1))) :
    Calls Tryz.prog 212 #[.string s,.slice A n c] w (AnsN true code o w):=by
  have HF:=zqh hf;clear hf;go_enter Tryz.func212,Tryz.ntmps212;(go_wp2_with fail);refine (texts_any _).mono ?_;rintro e w1 ⟨rfl,hm,b1⟩;have hl:=run_look hm s HF.out;have B1:=zqh b1;clear hm b1;(go_wp2_with fail);refine (HC.out _ B1.out).mono ?_;rintro e w2 ⟨B,m,d,rfl,hr,b2⟩;(go_wp2_with fail)
  go_ret3
  exact ⟨_,_,_,rfl,fun h _ => (hr.out h).le B1.out.size,below_thenS B1.out b2⟩
set_option maxHeartbeats 8000000 in
theorem turned_qDUPN (A : Option Addr) (n c : Nat) (code : Int) (o : List Int) (w : World)
    (HC : Hid (∀ w1,Below w.heap.size w w1 → Calls Tryz.prog 266 #[.slice A n c] w1 (GotN code o w1))) :
    Calls Tryz.prog 212 #[.string ⟨#[63,68,85,80]⟩,.slice A n c] w (AnsN true code o w):=by
  go_enter Tryz.func212,Tryz.ntmps212;(go_wp2_with fail);refine (texts_any _).mono ?_;rintro e w1 ⟨rfl,hm,b1⟩;have hl:=run_look hm ⟨#[63,68,85,80]⟩ (r:=none) (by kernel_rfl);have B1:=zqh b1;clear hm b1;(go_wp2_with fail);refine (HC.out _ B1.out).mono ?_;rintro e w2 ⟨B,m,d,rfl,hr,b2⟩;(go_wp2_with fail)
  go_ret3
  exact ⟨_,_,_,rfl,fun h _ => (hr.out h).le B1.out.size,below_thenS B1.out b2⟩
set_option maxHeartbeats 8000000 in
theorem turned_PICKN (A : Option Addr) (n c : Nat) (code : Int) (o : List Int) (w : World)
    (HC : Hid (∀ w1,Below w.heap.size w w1 → Calls Tryz.prog 267 #[.slice A n c] w1 (GotN code o w1))) :
    Calls Tryz.prog 212 #[.string ⟨#[80,73,67,75]⟩,.slice A n c] w (AnsN true code o w):=by
  go_enter Tryz.func212,Tryz.ntmps212;(go_wp2_with fail);refine (texts_any _).mono ?_;rintro e w1 ⟨rfl,hm,b1⟩;have hl:=run_look hm ⟨#[80,73,67,75]⟩ (r:=none) (by kernel_rfl);have B1:=zqh b1;clear hm b1;(go_wp2_with fail);refine (HC.out _ B1.out).mono ?_;rintro e w2 ⟨B,m,d,rfl,hr,b2⟩;(go_wp2_with fail)
  go_ret3
  exact ⟨_,_,_,rfl,fun h _ => (hr.out h).le B1.out.size,below_thenS B1.out b2⟩
set_option maxHeartbeats 8000000 in
theorem turned_ROLLN (A : Option Addr) (n c : Nat) (code : Int) (o : List Int) (w : World)
    (HC : Hid (∀ w1,Below w.heap.size w w1 → Calls Tryz.prog 268 #[.slice A n c] w1 (GotN code o w1))) :
    Calls Tryz.prog 212 #[.string ⟨#[82,79,76,76]⟩,.slice A n c] w (AnsN true code o w):=by
  go_enter Tryz.func212,Tryz.ntmps212;(go_wp2_with fail);refine (texts_any _).mono ?_;rintro e w1 ⟨rfl,hm,b1⟩;have hl:=run_look hm ⟨#[82,79,76,76]⟩ (r:=none) (by kernel_rfl);have B1:=zqh b1;clear hm b1;(go_wp2_with fail);refine (HC.out _ B1.out).mono ?_;rintro e w2 ⟨B,m,d,rfl,hr,b2⟩;(go_wp2_with fail)
  go_ret3
  exact ⟨_,_,_,rfl,fun h _ => (hr.out h).le B1.out.size,below_thenS B1.out b2⟩
set_option maxHeartbeats 8000000 in
theorem turned_DEPTHN (A : Option Addr) (n c : Nat) (l : List Int) (w : World) (hn : n ≤ 65536) (HR : Hid (Row w A n c l)) :
    Calls Tryz.prog 212 #[.string ⟨#[68,69,80,84,72]⟩,.slice A n c] w (AnsN true 0 (l ++ [(n : Int)]) w):=by
  go_enter Tryz.func212,Tryz.ntmps212;(go_wp2_with fail);refine (texts_any _).mono ?_;rintro e w1 ⟨rfl,hm,b1⟩;have hl:=run_look hm ⟨#[68,69,80,84,72]⟩ (r:=none) (by kernel_rfl);have B1:=zqh b1;clear hm b1;(go_wp2_with fail);refine (with_anyS _ _ _ _ _ _ hn (zqh (HR.out.keep B1.out))).mono ?_;rintro e w2 ⟨g,rfl,ho,b2⟩;have HO:=zqh (ho.rowN B1.out.size);clear ho;(go_wp2_with fail)
  go_ret3
  obtain ⟨B,d,e,hr⟩:=HO.out;injection e with e1 e2 e3
  subst e1 e3;exact ⟨_,_,_,rfl,fun _ _ => hr,below_thenS B1.out b2⟩
set_option maxHeartbeats 8000000 in
theorem turned_noN (A : Option Addr) (n c : Nat) (s : ByteArray) (o : List Int) (w : World) (e0 : ¬ s.data.toList = [68,85,80]) (e1 : ¬ s.data.toList = [68,82,79,80]) (e2 : ¬ s.data.toList = [83,87,65,80]) (e3 : ¬ s.data.toList = [79,86,69,82]) (e4 : ¬ s.data.toList = [78,73,80]) (e5 : ¬ s.data.toList = [84,85,67,75]) (e6 : ¬ s.data.toList = [82,79,84]) (e7 : ¬ s.data.toList = [45,82,79,84]) (e8 : ¬ s.data.toList = [50,68,85,80]) (e9 : ¬ s.data.toList = [50,68,82,79,80]) (e10 : ¬ s.data.toList = [50,83,87,65,80]) (e11 : ¬ s.data.toList = [50,79,86,69,82]) (e12 : ¬ s.data.toList = [63,68,85,80]) (e13 : ¬ s.data.toList = [68,69,80,84,72]) (e14 : ¬ s.data.toList = [80,73,67,75]) (e15 : ¬ s.data.toList = [82,79,76,76]) :
    Calls Tryz.prog 212 #[.string s,.slice A n c] w (AnsN false 0 o w):=by
  have HF:=zqh (find_no s e0 e1 e2 e3 e4 e5 e6 e7 e8 e9 e10 e11 e12 e13 e14 e15);have f12:=str_no e12;have f13:=str_no e13;have f14:=str_no e14;have f15:=str_no e15;clear e0 e1 e2 e3 e4 e5 e6 e7 e8 e9 e10 e11 e12 e13 e14 e15;go_enter Tryz.func212,Tryz.ntmps212;(go_wp2_with fail);refine (texts_any _).mono ?_;rintro e w1 ⟨rfl,hm,b1⟩;have hl:=run_look hm s HF.out;have B1:=zqh b1;clear hm b1;(go_wp2_with fail)
  go_ret3
  exact ⟨_,_,_,rfl,(fun _ h => by cases h),B1.out⟩
set_option maxHeartbeats 8000000 in
theorem told_gotN (A : Option Addr) (n c k : Nat) (l : List Int) (idx : List Nat) (t a b : ByteArray) (w : World) (hn : n ≤ 65536) (hk0 : 0 < k) (HT : TellsS t a b k idx) (HR : Hid (Row w A n c l)) :
    ∀ w1,Below w.heap.size w w1 → Calls Tryz.prog 265 #[.string t,.slice A n c] w1 (GotN (codeT (resF (.perm k idx) l)) (outT (resF (.perm k idx) l)) w1):=by
  intro w1 hb;have hl:=HR.out.1
  by_cases h : n < k
  · have e : resF (.perm k idx) l = .under:=by simp only [resF]; rw [if_pos (by omega)]
    rw [e];refine (told_under A n c k idx t a b w1 hn h (zqh HT)).mono ?_;rintro e w' ⟨rfl,b2⟩;exact ⟨_,_,_,rfl,zqh (fun h => by simp [codeT] at h),b2⟩
  · obtain ⟨low,rfl⟩ : ∃ low,n = low + k:=⟨n - k,by omega⟩
    have e : resF (.perm k idx) l = .out (leftL l low idx):=by
      simp only [resF];rw [if_neg (by omega),hl,Nat.add_sub_cancel]
    rw [e];refine (told_okN A low c k l idx t a b w1 hn hk0 (zqh HT) (zqh (HR.out.keep hb))).mono ?_;rintro e w' ⟨B,d,rfl,hr,b2⟩;exact ⟨_,_,_,rfl,zqh (fun _ => hr),b2⟩
set_option maxHeartbeats 8000000 in
theorem doubled_gotN (A : Option Addr) (n c : Nat) (l : List Int) (w : World) (hn : n ≤ 65536) (HR : Hid (Row w A n c l)) :
    ∀ w1,Below w.heap.size w w1 → Calls Tryz.prog 266 #[.slice A n c] w1 (GotN (codeT (resF .qdup l)) (outT (resF .qdup l)) w1):=by
  intro w1 hb;have hl:=HR.out.1;have HR1:=zqh (HR.out.keep hb);cases n with
  | zero =>
    obtain rfl:=List.eq_nil_of_length_eq_zero hl;refine (doubled_noneN A c w1 HR1).mono ?_;rintro e w' ⟨B,m,d,rfl,hr,b2⟩;exact ⟨_,_,_,rfl,zqh (fun h => by simp [codeT,resF] at h),b2⟩
  | succ k =>
    have ht : topF l = l.getD k 0:=by simp only [topF,hl]; rfl
    by_cases hz : l.getD k 0 = 0
    · have e : resF .qdup l = .out l:=by simp only [resF,ht,hz]; rw [if_neg (by omega)]; rfl
      rw [e];refine (doubled_zeroN A k c l w1 hn HR1 hz).mono ?_;rintro e w' ⟨B,m,d,rfl,hr,b2⟩;exact ⟨_,_,_,rfl,zqh (fun _ => hr),b2⟩
    · have e : resF .qdup l = .out (l ++ [l.getD k 0]):=by simp only [resF,ht]; rw [if_neg (by omega),if_neg hz]
      rw [e];refine (doubled_otherN A k c l _ w1 hn (by simpa using hz) HR1 (zqh rfl)).mono ?_;rintro e w' ⟨B,m,d,rfl,hr,b2⟩;exact ⟨_,_,_,rfl,zqh (fun _ => hr),b2⟩
set_option maxHeartbeats 8000000 in
theorem picked_gotN (A : Option Addr) (n c : Nat) (l : List Int) (w : World) (hn : n ≤ 65536) (HR : Hid (Row w A n c l)) :
    ∀ w1,Below w.heap.size w w1 → Calls Tryz.prog 267 #[.slice A n c] w1 (GotN (codeT (resF .pick l)) (outT (resF .pick l)) w1):=by
  intro w1 hb;have hl:=HR.out.1;have HR1:=zqh (HR.out.keep hb)
  rcases num_cases l with ⟨rfl,hz⟩ | ⟨k,hk,hy,hz⟩ | ⟨p,y,hk,hy,hz,hp⟩
  · obtain rfl : n = 0:=hl.symm
    rw [pick_no hz];refine (picked_none A c w1 HR1).mono ?_;rintro e w' ⟨rfl,b2⟩;exact ⟨_,_,_,rfl,zqh (fun h => by simp [codeT] at h),b2⟩
  · obtain rfl : n = k + 1:=by omega
    rw [pick_no hz];refine (picked_out A k c l _ w1 hn hy HR1 (zqh rfl)).mono ?_;rintro e w' ⟨rfl,b2⟩;exact ⟨_,_,_,rfl,zqh (fun h => by simp [codeT] at h),b2⟩
  · obtain rfl : n = p + 1 + y + 1:=by omega
    rw [pick_yes hk hz hp];refine (picked_okN A p y c l w1 (by omega) HR1 (zqh hy)).mono ?_;rintro e w' ⟨B,m,d,rfl,hr,b2⟩;exact ⟨_,_,_,rfl,zqh (fun _ => hr),b2⟩
set_option maxHeartbeats 8000000 in
theorem rolled_gotN (A : Option Addr) (n c : Nat) (l : List Int) (w : World) (hn : n ≤ 65536) (HR : Hid (Row w A n c l)) :
    ∀ w1,Below w.heap.size w w1 → Calls Tryz.prog 268 #[.slice A n c] w1 (GotN (codeT (resF .roll l)) (outT (resF .roll l)) w1):=by
  intro w1 hb;have hl:=HR.out.1;have HR1:=zqh (HR.out.keep hb)
  rcases num_cases l with ⟨rfl,hz⟩ | ⟨k,hk,hy,hz⟩ | ⟨p,y,hk,hy,hz,hp⟩
  · obtain rfl : n = 0:=hl.symm
    rw [roll_no hz];refine (rolled_none A c w1 HR1).mono ?_;rintro e w' ⟨rfl,b2⟩;exact ⟨_,_,_,rfl,zqh (fun h => by simp [codeT] at h),b2⟩
  · obtain rfl : n = k + 1:=by omega
    rw [roll_no hz];refine (rolled_out A k c l _ w1 hn hy HR1 (zqh rfl)).mono ?_;rintro e w' ⟨rfl,b2⟩;exact ⟨_,_,_,rfl,zqh (fun h => by simp [codeT] at h),b2⟩
  · obtain rfl : n = p + 1 + y + 1:=by omega
    rw [roll_yes hk hz hp];refine (rolled_okN A p y c l w1 (by omega) HR1 (zqh hy)).mono ?_;rintro e w' ⟨B,m,d,rfl,hr,b2⟩;exact ⟨_,_,_,rfl,zqh (fun _ => hr),b2⟩
set_option maxHeartbeats 8000000 in
theorem turned_atN (A : Option Addr) (n c : Nat) (s : ByteArray) (l : List Int) (w : World) (hn : n ≤ 65536) (HR : Hid (Row w A n c l)) :
    Calls Tryz.prog 212 #[.string s,.slice A n c] w (AnsN (knownR (resF (kindF s.data.toList) l)) (codeT (resF (kindF s.data.toList) l)) (outT (resF (kindF s.data.toList) l)) w):=by
  refine name_cases s (P:=fun s => Calls Tryz.prog 212 #[.string s,.slice A n c] w (AnsN (knownR (resF (kindF s.data.toList) l)) (codeT (resF (kindF s.data.toList) l)) (outT (resF (kindF s.data.toList) l)) w)) ?_ ?_ ?_ ?_ ?_ ?_ ?_ ?_ ?_ ?_ ?_ ?_ ?_ ?_ ?_ ?_ ?_
  · rw [kind_DUP,show knownR (resF (.perm 1 [0,0]) l) = true by simp only [resF]; split <;> rfl]
    exact turned_textN A n c 0 _ ⟨#[97,32,97,97]⟩ _ _ w (by kernel_rfl) (zqh (told_gotN A n c 1 l [0,0] _ _ _ w hn (by decide) tells_DUP HR))
  · rw [kind_DROP,show knownR (resF (.perm 1 []) l) = true by simp only [resF]; split <;> rfl]
    exact turned_textN A n c 1 _ ⟨#[97,32]⟩ _ _ w (by kernel_rfl) (zqh (told_gotN A n c 1 l [] _ _ _ w hn (by decide) tells_DROP HR))
  · rw [kind_SWAP,show knownR (resF (.perm 2 [1,0]) l) = true by simp only [resF]; split <;> rfl]
    exact turned_textN A n c 2 _ ⟨#[97,98,32,98,97]⟩ _ _ w (by kernel_rfl) (zqh (told_gotN A n c 2 l [1,0] _ _ _ w hn (by decide) tells_SWAP HR))
  · rw [kind_OVER,show knownR (resF (.perm 2 [0,1,0]) l) = true by simp only [resF]; split <;> rfl]
    exact turned_textN A n c 3 _ ⟨#[97,98,32,97,98,97]⟩ _ _ w (by kernel_rfl) (zqh (told_gotN A n c 2 l [0,1,0] _ _ _ w hn (by decide) tells_OVER HR))
  · rw [kind_NIP,show knownR (resF (.perm 2 [1]) l) = true by simp only [resF]; split <;> rfl]
    exact turned_textN A n c 4 _ ⟨#[97,98,32,98]⟩ _ _ w (by kernel_rfl) (zqh (told_gotN A n c 2 l [1] _ _ _ w hn (by decide) tells_NIP HR))
  · rw [kind_TUCK,show knownR (resF (.perm 2 [1,0,1]) l) = true by simp only [resF]; split <;> rfl]
    exact turned_textN A n c 5 _ ⟨#[97,98,32,98,97,98]⟩ _ _ w (by kernel_rfl) (zqh (told_gotN A n c 2 l [1,0,1] _ _ _ w hn (by decide) tells_TUCK HR))
  · rw [kind_ROT,show knownR (resF (.perm 3 [1,2,0]) l) = true by simp only [resF]; split <;> rfl]
    exact turned_textN A n c 6 _ ⟨#[97,98,99,32,98,99,97]⟩ _ _ w (by kernel_rfl) (zqh (told_gotN A n c 3 l [1,2,0] _ _ _ w hn (by decide) tells_ROT HR))
  · rw [kind_mROT,show knownR (resF (.perm 3 [2,0,1]) l) = true by simp only [resF]; split <;> rfl]
    exact turned_textN A n c 7 _ ⟨#[97,98,99,32,99,97,98]⟩ _ _ w (by kernel_rfl) (zqh (told_gotN A n c 3 l [2,0,1] _ _ _ w hn (by decide) tells_mROT HR))
  · rw [kind_2DUP,show knownR (resF (.perm 2 [0,1,0,1]) l) = true by simp only [resF]; split <;> rfl]
    exact turned_textN A n c 8 _ ⟨#[97,98,32,97,98,97,98]⟩ _ _ w (by kernel_rfl) (zqh (told_gotN A n c 2 l [0,1,0,1] _ _ _ w hn (by decide) tells_2DUP HR))
  · rw [kind_2DROP,show knownR (resF (.perm 2 []) l) = true by simp only [resF]; split <;> rfl]
    exact turned_textN A n c 9 _ ⟨#[97,98,32]⟩ _ _ w (by kernel_rfl) (zqh (told_gotN A n c 2 l [] _ _ _ w hn (by decide) tells_2DROP HR))
  · rw [kind_2SWAP,show knownR (resF (.perm 4 [2,3,0,1]) l) = true by simp only [resF]; split <;> rfl]
    exact turned_textN A n c 10 _ ⟨#[97,98,99,100,32,99,100,97,98]⟩ _ _ w (by kernel_rfl) (zqh (told_gotN A n c 4 l [2,3,0,1] _ _ _ w hn (by decide) tells_2SWAP HR))
  · rw [kind_2OVER,show knownR (resF (.perm 4 [0,1,2,3,0,1]) l) = true by simp only [resF]; split <;> rfl]
    exact turned_textN A n c 11 _ ⟨#[97,98,99,100,32,97,98,99,100,97,98]⟩ _ _ w (by kernel_rfl) (zqh (told_gotN A n c 4 l [0,1,2,3,0,1] _ _ _ w hn (by decide) tells_2OVER HR))
  · rw [kind_qDUP,show knownR (resF .qdup l) = true by simp only [resF]; split <;> rfl]
    exact turned_qDUPN A n c _ _ w (zqh (doubled_gotN A n c l w hn HR))
  · rw [kind_DEPTH]
    have e : resF .depth l = .out (l ++ [(n : Int)]):=by simp only [resF]; rw [HR.out.1]
    rw [e];exact turned_DEPTHN A n c l w hn HR
  · rw [kind_PICK,show knownR (resF .pick l) = true by simp only [resF]; split <;> rfl]
    exact turned_PICKN A n c _ _ w (zqh (picked_gotN A n c l w hn HR))
  · rw [kind_ROLL,show knownR (resF .roll l) = true by simp only [resF]; split <;> rfl]
    exact turned_ROLLN A n c _ _ w (zqh (rolled_gotN A n c l w hn HR))
  · intro e0 e1 e2 e3 e4 e5 e6 e7 e8 e9 e10 e11 e12 e13 e14 e15
    rw [kind_other _ e0 e1 e2 e3 e4 e5 e6 e7 e8 e9 e10 e11 e12 e13 e14 e15];exact turned_noN A n c s _ w e0 e1 e2 e3 e4 e5 e6 e7 e8 e9 e10 e11 e12 e13 e14 e15
set_option maxHeartbeats 8000000 in
theorem shuffle_noN (A : Option Addr) (n c : Nat) (s : ByteArray) (l o : List Int) (limit : Int) (w : World) (hn : n ≤ 65536) (HR : Hid (Row w A n c l)) (HT : Hid (Calls Tryz.prog 212 #[.string s,.slice A n c] w (AnsN false 0 o w))) :
    Calls Tryz.prog 120 #[.string s,.slice A n c,.int .i64 limit] w fun e w' => ∃ B m d,e = .returned (.tuple #[.slice B m d,.bool false,.int .i64 0]) ∧ RowN w.heap.size w' B m d l ∧ Below w.heap.size w w':=by
  go_enter Tryz.func120,Tryz.ntmps120;(go_wp2_with fail);refine HT.out.mono ?_;rintro e w1 ⟨B,m,d,rfl,_,b1⟩;have B1:=zqh b1;clear b1;(go_wp2_with fail);refine (own_any _ _ _ l _ hn (zqh (HR.out.keep B1.out))).mono ?_;rintro e w2 ⟨g,rfl,ho,b2⟩;have HO:=zqh (ho.rowN B1.out.size);clear ho;(go_wp2_with fail)
  go_ret3
  obtain ⟨B,d,e,hr⟩:=HO.out;injection e with e1 e2 e3
  subst e1 e3;exact ⟨_,_,_,rfl,hr,below_thenS B1.out b2⟩
set_option maxHeartbeats 8000000 in
theorem shuffle_underN (A : Option Addr) (n c : Nat) (s : ByteArray) (l o : List Int) (limit : Int) (w : World) (hn : n ≤ 65536) (HR : Hid (Row w A n c l)) (HT : Hid (Calls Tryz.prog 212 #[.string s,.slice A n c] w (AnsN true (-4) o w))) :
    Calls Tryz.prog 120 #[.string s,.slice A n c,.int .i64 limit] w fun e w' => ∃ B m d,e = .returned (.tuple #[.slice B m d,.bool true,.int .i64 (-4)]) ∧ RowN w.heap.size w' B m d l ∧ Below w.heap.size w w':=by
  go_enter Tryz.func120,Tryz.ntmps120;(go_wp2_with fail);refine HT.out.mono ?_;rintro e w1 ⟨B,m,d,rfl,_,b1⟩;have B1:=zqh b1;clear b1;(go_wp2_with fail);refine (own_any _ _ _ l _ hn (zqh (HR.out.keep B1.out))).mono ?_;rintro e w2 ⟨g,rfl,ho,b2⟩;have HO:=zqh (ho.rowN B1.out.size);clear ho;(go_wp2_with fail)
  go_ret3
  obtain ⟨B,d,e,hr⟩:=HO.out;injection e with e1 e2 e3
  subst e1 e3;exact ⟨_,_,_,rfl,hr,below_thenS B1.out b2⟩
set_option maxHeartbeats 8000000 in
theorem shuffle_overN (A : Option Addr) (n c : Nat) (s : ByteArray) (l o : List Int) (limit : Int) (w : World) (hn : n ≤ 65536) (HR : Hid (Row w A n c l)) (hlim : limit < (o.length : Int)) (HT : Hid (Calls Tryz.prog 212 #[.string s,.slice A n c] w (AnsN true 0 o w))) :
    Calls Tryz.prog 120 #[.string s,.slice A n c,.int .i64 limit] w fun e w' => ∃ B m d,e = .returned (.tuple #[.slice B m d,.bool true,.int .i64 (-3)]) ∧ RowN w.heap.size w' B m d l ∧ Below w.heap.size w w':=by
  go_enter Tryz.func120,Tryz.ntmps120;(go_wp2_with fail);refine HT.out.mono ?_;rintro e w1 ⟨B,m,d,rfl,hr,b1⟩;have hm : limit < (m : Int):=by have:=(hr rfl rfl).1.1; omega
  have B1:=zqh b1;clear b1 hr hlim;(go_wp2_with fail);refine (own_any _ _ _ l _ hn (zqh (HR.out.keep B1.out))).mono ?_;rintro e w2 ⟨g,rfl,ho,b2⟩;have HO:=zqh (ho.rowN B1.out.size);clear ho;(go_wp2_with fail)
  go_ret3
  obtain ⟨B,d,e,hr⟩:=HO.out;injection e with e1 e2 e3
  subst e1 e3;exact ⟨_,_,_,rfl,hr,below_thenS B1.out b2⟩
set_option maxHeartbeats 8000000 in
theorem shuffle_okN (A : Option Addr) (n c : Nat) (s : ByteArray) (l o : List Int) (limit : Int) (w : World) (hlim : ¬ limit < (o.length : Int)) (HT : Hid (Calls Tryz.prog 212 #[.string s,.slice A n c] w (AnsN true 0 o w))) :
    Calls Tryz.prog 120 #[.string s,.slice A n c,.int .i64 limit] w fun e w' => ∃ B m d,e = .returned (.tuple #[.slice B m d,.bool true,.int .i64 0]) ∧ RowN w.heap.size w' B m d o ∧ Below w.heap.size w w':=by
  go_enter Tryz.func120,Tryz.ntmps120;(go_wp2_with fail);refine HT.out.mono ?_;rintro e w1 ⟨B,m,d,rfl,hr,b1⟩;have hm : decide (limit < (m : Int)) = false:=by have:=(hr rfl rfl).1.1; simp; omega
  have B1:=zqh b1;have HO:=zqh (hr rfl rfl);clear b1 hr hlim;(go_wp2_with fail)
  go_ret3
  exact ⟨_,_,_,rfl,HO.out,B1.out⟩
set_option maxHeartbeats 8000000 in
theorem shuffle_atN (A : Option Addr) (n c : Nat) (s : ByteArray) (l : List Int) (limit : Int) (w : World) (hn : n ≤ 65536) (HR : Hid (Row w A n c l)) :
    Calls Tryz.prog 120 #[.string s,.slice A n c,.int .i64 limit] w fun e w' => ∃ B m d,e = .returned (.tuple #[.slice B m d,.bool (knownR (resF (kindF s.data.toList) l)),.int .i64 (codeR (resF (kindF s.data.toList) l) limit)]) ∧ RowN w.heap.size w' B m d (listR (resF (kindF s.data.toList) l) l limit) ∧ Below w.heap.size w w':=by
  have ht:=turned_atN A n c s l w hn HR;cases hr : resF (kindF s.data.toList) l with
  | no =>
    rw [hr] at ht;exact shuffle_noN A n c s l _ limit w hn HR (zqh ht)
  | under =>
    rw [hr] at ht;exact shuffle_underN A n c s l _ limit w hn HR (zqh ht)
  | out o =>
    rw [hr] at ht
    by_cases hlim : limit < (o.length : Int)
    · simp only [codeR,listR,if_pos hlim]
      exact shuffle_overN A n c s l o limit w hn HR hlim (zqh ht)
    · simp only [codeR,listR,if_neg hlim]
      exact shuffle_okN A n c s l o limit w hlim (zqh ht)
end Go.Proofs.YtcmldhjicjmmgaaGreatDoor
