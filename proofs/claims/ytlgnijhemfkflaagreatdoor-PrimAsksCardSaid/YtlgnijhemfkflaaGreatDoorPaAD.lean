/- Part 4. -/
import Derived.Test.YtlgnijhemfkflaaGreatDoorPaAC
import Derived.Laws.IdiomStrings
import Derived.Laws.BytesString
import Derived.ProofKit
import Derived.OpenShut
import Derived.ShutString
import Derived.ChangeOld
import Derived.Deep.Slices
import Derived.Deep.Fields
import Derived.Deep.DeepCutAuto
import Derived.Deep.Cut
set_option linter.unusedVariables false
set_option linter.unusedSimpArgs false
set_option maxRecDepth 100000
set_option maxHeartbeats 4000000

namespace Go.Proofs.YtlgnijhemfkflaaGreatDoor
open Go.RowKit


theorem rtS {w w1 : World} {A P : Option Addr} {L c K d : Nat} (h : Rt w A P L c K d w1) {g o1 o2 : Nat} {x y : Value} (h1 : w1.cell? ⟨g,o1,none⟩ = some x) (h2 : w1.cell? ⟨g,o2,none⟩ = some y) : w1.drew.cell? ⟨w.heap.size,0,none⟩ = some (.slice A L c) ∧ w1.drew.cell? ⟨w.heap.size,1,none⟩ = some (.slice P K d) ∧ w1.drew.cell? ⟨g,o1,none⟩ = some x ∧ w1.drew.cell? ⟨g,o2,none⟩ = some y ∧ Rt w A P L c K d w1.drew :=
  ⟨h.box.use.1,h.box.use.2.1,h1,h2,h.drew⟩
theorem rtK {w w1 w2 : World} {A P : Option Addr} {L c K d : Nat} {g o1 o2 : Nat} {x y : Value} (hg : g < w.heap.size) (h : w1.cell? ⟨w.heap.size,0,none⟩ = some (.slice A L c) ∧ w1.cell? ⟨w.heap.size,1,none⟩ = some (.slice P K d) ∧ w1.cell? ⟨g,o1,none⟩ = some x ∧ w1.cell? ⟨g,o2,none⟩ = some y ∧ Rt w A P L c K d w1) (b : Below w1.heap.size w1 w2) : w2.cell? ⟨w.heap.size,0,none⟩ = some (.slice A L c) ∧ w2.cell? ⟨w.heap.size,1,none⟩ = some (.slice P K d) ∧ w2.cell? ⟨g,o1,none⟩ = some x ∧ w2.cell? ⟨g,o2,none⟩ = some y ∧ Rt w A P L c K d w2:=by
  obtain ⟨_,_,h1,h2,h3⟩:=h;have h4:=h3.keep b;have hl:=Nat.lt_of_lt_of_le hg h3.bel.size;exact ⟨h4.box.use.1,h4.box.use.2.1,(b.cell (p:=⟨g,o1,none⟩) hl).trans h1,(b.cell (p:=⟨g,o2,none⟩) hl).trans h2,h4⟩
theorem rright_at (A P : Option Addr) (L c K d : Nat) (m : PM) (w : World) (HM : Hid (IsMem w (.agg #[.slice A L c,.slice P K d]) m)) :
    Calls Tryz.prog 38 #[.agg #[.slice A L c,.slice P K d]] w fun e w' => e = .returned (.bool (rightB m)) ∧ Below w.heap.size w w':=by
  have hbig:=HM.out.big;unfold maxLen at hbig;obtain ⟨hL,hK⟩:=hbig;have H:=zqh (rightB_eq m L HM.out.len1);obtain ⟨R,hR⟩ : ∃ R,rightB m = R:=⟨_,rfl⟩;rw [hR] at H ⊢;clear hR;go_enter Tryz.func38,Tryz.ntmps38;go_wp2
  go_loopw [3] (fun i wr => ∃ j : Nat,j ≤ K ∧ i = .int .i64 (j : Int) ∧ Hid ((m.2.take j).all (rightP L) = true) ∧ Rt w A P L c K d wr) (fun i _ => K - (intOf i).toNat)
  case atStart => exact ⟨0,Nat.zero_le _,rfl,by simp [Hid],rt_new _ _ _ _ _ _ _⟩
  case round =>
    obtain ⟨j,hj,rfl,hall,hrt⟩:=hrel
    by_cases hlt : j < K
    · obtain ⟨g,o,B,n,e,p,rfl,hg,hp,hc1,hc2,hby,hn,hKd⟩:=mem_patch HM.out hlt
      have hd1 : wr.cell? ⟨g,o + j * 2,none⟩ = some (.int .i64 p.1):=(hrt.bel.cell (p:=⟨g,o + j * 2,none⟩) hg).trans hc1;have hd2 : wr.cell? ⟨g,o + j * 2 + 1,none⟩ = some (.slice B n e):=(hrt.bel.cell (p:=⟨g,o + j * 2 + 1,none⟩) hg).trans hc2;obtain ⟨q0,q1,_,_⟩:=hrt.box.use;have hlt1:=hrt.box.lt;have HP:=zqh hp;have HR : Hid (rightP L p = okB L p.1 n):=by unfold rightP; rw [hby.len]; rfl
      obtain ⟨p1,hp1⟩ : ∃ p1,p.1 = p1:=⟨_,rfl⟩;rw [hp1] at hd1 HR;have CT : Hid (∀ w1,Calls Tryz.prog 70 #[.agg #[.slice A L c,.slice (some ⟨g,o,none⟩) K d],.int .i64 p1,.int .i64 (n : Int)] w1 fun e w' => e = .returned (.bool (okB L p1 n)) ∧ Below w1.heap.size w1 w'):=fun w1 => rthere_any _ _ _ _ _ _ _ _ _ (by omega) (by unfold maxLen at hn; omega)
      unfold maxLen at hn;have hji : (j : Int) < (K : Int):=by omega
      clear hp hby hc1 hc2 hp1;cases ok : okB L p1 n with
      | true =>
        have HA : Hid ((m.2.take (j + 1)).all (rightP L) = true):=by rw [all_take_step HP.out,hall.out,HR.out,ok]; rfl
        rw [ok] at CT;(go_wp2_with fail);refine wp_region_noPanic ?_
        go_region_held3 (fun w' => w'.cell? ⟨w.heap.size,0,none⟩ = some (.slice A L c) ∧ w'.cell? ⟨w.heap.size,1,none⟩ = some (.slice (some ⟨g,o,none⟩) K d) ∧ w'.cell? ⟨g,o + j * 2,none⟩ = some (.int .i64 p1) ∧ w'.cell? ⟨g,o + j * 2 + 1,none⟩ = some (.slice B n e) ∧ Rt w A (some ⟨g,o,none⟩) L c K d w') (first | assumption | exact rtS hrt hd1 hd2)
          (first | (go_at_call 70; ((with_reducible refine (CT.out _).mono ?_); rintro e w2 ⟨rfl,b2⟩; have s2:=rtK hg (by assumption) b2)))
        all_goals (refine NoPanic.normal ?_)
        have HRT2:=zqh s2.2.2.2.2;clear s2 b2 q0 q1 hd1 hd2 hrt;go_wp2
        go_roundw
        case rel => exact ⟨j + 1,by omega,by go_num,HA.out,HRT2.out⟩
        case measure => simp [intOf]; omega
      | false =>
        have HA : Hid (m.2.all (rightP L) = false):=all_no HP.out (by rw [HR.out,ok]);rw [ok] at CT;(go_wp2_with fail);refine wp_region_noPanic ?_
        go_region_held3 (fun w' => w'.cell? ⟨w.heap.size,0,none⟩ = some (.slice A L c) ∧ w'.cell? ⟨w.heap.size,1,none⟩ = some (.slice (some ⟨g,o,none⟩) K d) ∧ w'.cell? ⟨g,o + j * 2,none⟩ = some (.int .i64 p1) ∧ w'.cell? ⟨g,o + j * 2 + 1,none⟩ = some (.slice B n e) ∧ Rt w A (some ⟨g,o,none⟩) L c K d w') (first | assumption | exact rtS hrt hd1 hd2)
          (first | (go_at_call 70; ((with_reducible refine (CT.out _).mono ?_); rintro e w2 ⟨rfl,b2⟩; have s2:=rtK hg (by assumption) b2)))
        all_goals (refine NoPanic.normal ?_)
        have HRT2:=zqh s2.2.2.2.2;clear s2 b2 q0 q1 hd1 hd2 hrt;go_wp2;go_ret;exact ⟨ret_bool (by rw [H.out,HA.out]; simp),HRT2.out.bel⟩
    · have hjk : j = K:=by omega
      subst hjk;have hl:=HM.out.len2;have HR : Hid (R = (decide (L ≤ 65536) && decide (L % 8 = 0))):=by
        have:=hall.out;rw [List.take_of_length_le (by omega)] at this;rw [H.out,this,Bool.and_true];rfl
      have HRT:=zqh hrt;obtain ⟨q0,q1,_,_⟩:=hrt.box.use;clear hl hrt
      by_cases h1 : L ≤ 65536
      · have h1' : (L : Int) ≤ 65536:=by omega
        by_cases h2 : L % 8 = 0
        · have h2' : ((L : Int) % 8 == 0) = true:=by simp; omega
          have HE : Hid (R = true):=by rw [HR.out,decide_eq_true h1,decide_eq_true h2]; rfl
          clear h1 h2;go_wp2;go_ret;exact ⟨ret_bool HE.out.symm,HRT.out.bel⟩
        · have h2' : ((L : Int) % 8 == 0) = false:=by simp; omega
          have HE : Hid (R = false):=by rw [HR.out,decide_eq_false h2]; simp [Hid]
          clear h1 h2;go_wp2;go_ret;exact ⟨ret_bool HE.out.symm,HRT.out.bel⟩
      · have h1' : decide ((L : Int) ≤ 65536) = false:=by simp; omega
        have HE : Hid (R = false):=by rw [HR.out,decide_eq_false h1]; rfl
        clear h1;go_wp2;go_ret;exact ⟨ret_bool HE.out.symm,HRT.out.bel⟩
end Go.Proofs.YtlgnijhemfkflaaGreatDoor

namespace Go.Proofs.YtlgnijhemfkflaaGreatDoor
open Go.RowKit


def strB (l : List UInt8) : ByteArray:=⟨l.toArray⟩
theorem strB_inj {a b : List UInt8} (h : strB a = strB b) : a = b:=by
  have : a.toArray = b.toArray:=congrArg ByteArray.data h;simpa using this
theorem str_ne {a b : ByteArray} (h : a ≠ b) : (a.toList == b.toList) = false:=by
  rw [beq_eq_false_iff_ne];intro e;rw [ByteArray.toList_eq,ByteArray.toList_eq] at e
  apply h
  cases a
  cases b
  congr 1
  exact Array.toList_inj.1 e
theorem Byt.conv {w : World} {A : Option Addr} {n c : Nat} {l : List UInt8} (h : Byt w (.slice A n c) l) : (convert 24 9 (.slice A n c)).run Tryz.prog w = .ok (.string (strB l)) w:=by
  have hl:=h.len;subst hl
  rcases h.lies with e | ⟨g,o,rfl,_,hc⟩
  · have : l = []:=by
      have:=congrArg List.length e;rw [u8s_len] at this;exact List.eq_nil_of_length_eq_zero this
    subst this;rw [run_convert_bytes_string w 24 9 5 _ _ _ Tryz.underlying24 Tryz.underlying5 Tryz.underlying9];cases A <;> simp [Conv.bytesToString,loadCells,strB]
    all_goals rfl
  · refine run_convert_bytes_back w 24 9 5 ⟨g,o,none⟩ c l Tryz.underlying24 Tryz.underlying5 Tryz.underlying9 fun j hj => ?_
    rw [add_at];exact hc j _ (u8s_at hj)
theorem take_eq_step {α : Type} {a b : List α} {j : Nat} {p q : α} (h : a.take j = b.take j) (hp : a[j]? = some p) (hq : b[j]? = some q) (e : p = q) : a.take (j + 1) = b.take (j + 1):=by
  have h1:=(List.getElem?_eq_some_iff.1 hp);have h2:=(List.getElem?_eq_some_iff.1 hq);obtain ⟨i1,e1⟩:=h1;obtain ⟨i2,e2⟩:=h2;rw [List.take_succ_eq_append_getElem i1,List.take_succ_eq_append_getElem i2,h,e1,e2,e]
end Go.Proofs.YtlgnijhemfkflaaGreatDoor

namespace Go.Proofs.YtlgnijhemfkflaaGreatDoor
open Go.RowKit


def digN (n : Nat) : Nat:=if n ≤ 9 then 48 + n else if n ≤ 35 then 55 + n else 63
def digF (n : Int) : Int:=if 0 ≤ n then (digN n.toNat : Int) else 63
def wN (c : Nat) : Nat:=if 48 ≤ c ∧ c ≤ 57 then c - 48 else if 65 ≤ c ∧ c ≤ 90 then c - 55 else if 97 ≤ c ∧ c ≤ 122 then c - 87 else 99
def baseB (b : Int) : Bool:=decide (2 ≤ b ∧ b ≤ 36)
theorem baseB_iff (b : Int) : baseB b = true ↔ (2 ≤ b ∧ b ≤ 36):=by unfold baseB; simp
theorem baseB_no (b : Int) : baseB b = false ↔ ¬ (2 ≤ b ∧ b ≤ 36):=by unfold baseB; rw [decide_eq_false_iff_not]
def isW (c : Nat) (b : Int) : Bool:=decide (2 ≤ b ∧ b ≤ 36 ∧ (wN c : Int) < b)
theorem isW_iff (c : Nat) (b : Int) : isW c b = true ↔ (2 ≤ b ∧ b ≤ 36 ∧ (wN c : Int) < b):=by unfold isW; simp
theorem isW_no (c : Nat) (b : Int) : isW c b = false ↔ ¬ (2 ≤ b ∧ b ≤ 36 ∧ (wN c : Int) < b):=by unfold isW; rw [decide_eq_false_iff_not]
def worthF (c : Nat) (b : Int) : Int:=if isW c b = true then (wN c : Int) else 0
def usF (b u : Nat) : List UInt8 :=
  if h : 2 ≤ b ∧ b ≤ u then usF b (u / b) ++ [UInt8.ofNat (digN (u % b))] else [UInt8.ofNat (digN u)]
termination_by u
decreasing_by exact Nat.div_lt_self (by omega) (by omega)
theorem usF_big {b u : Nat} (h2 : 2 ≤ b) (h : b ≤ u) : usF b u = usF b (u / b) ++ [UInt8.ofNat (digN (u % b))]:=by
  rw [usF,dif_pos ⟨h2,h⟩]
theorem usF_low {b u : Nat} (h : u < b) : usF b u = [UInt8.ofNat (digN u)]:=by
  rw [usF,dif_neg (by omega)]
def ushowF (n b : Int) : List UInt8:=if baseB b = true then usF b.toNat (un n) else []
def showF (n b : Int) : List UInt8:=if baseB b = true then (if 0 ≤ n then usF b.toNat n.toNat else 45 :: usF b.toNat (-n).toNat) else []
def showC (b : Int) : Int:=if baseB b = true then 0 else -24
end Go.Proofs.YtlgnijhemfkflaaGreatDoor

namespace Go.Proofs.YtlgnijhemfkflaaGreatDoor
open Go.RowKit


theorem w64_id {n : Int} (h0 : -9223372036854775808 ≤ n) (h1 : n ≤ 9223372036854775807) : wrap64 n = n:=IntWalk.wrap64_in n ⟨h0,h1⟩
theorem digN_lt (n : Nat) : digN n < 256:=by unfold digN; split; omega; split <;> omega
theorem digN_u8 (n : Nat) : (UInt8.ofNat (digN n)).toNat = digN n:=by
  rw [UInt8.toNat_ofNat'];have:=digN_lt n;omega
theorem us_ne {b u : Nat} : usF b u ≠ []:=by
  rw [usF]
  split <;> simp
end Go.Proofs.YtlgnijhemfkflaaGreatDoor

namespace Go.Proofs.YtlgnijhemfkflaaGreatDoor
open Go.RowKit


theorem strB_size (l : List UInt8) : (strB l).size = l.length:=rfl
theorem strB_app (a b : List UInt8) : strB a ++ strB b = strB (a ++ b):=by
  apply ByteArray.ext
  simp [strB,ByteArray.data_append]
theorem run_ix (l : List UInt8) (i : Nat) (h : i < l.length) (w : World) :
    (Instr.index 9 (.string (strB l)) (.int .i64 (i : Int))).run Tryz.prog w = .ok (.int .u8 ((l[i]).toNat : Int)) w:=by
  have e : (strB l)[i]? = some l[i]:=by
    have hs : i < (strB l).size:=h;rw [getElem?_pos (strB l) i hs];rfl
  simp [Instr.index,run_underlying Tryz.underlying9,asIntOf,e]
theorem one_newN (w1 : World) (b : Array Value) (t : TypeId) : (w1.alloc (.cells b t)).heap[w1.heap.size]? = some (.cells b t (0,0)):=by
  show (w1.heap.push _)[w1.heap.size]? = _;exact Array.getElem?_push_size
end Go.Proofs.YtlgnijhemfkflaaGreatDoor

namespace Go.Proofs.YtlgnijhemfkflaaGreatDoor
open Go.RowKit


def R2 (w : World) (A P A' P' : Option Addr) (L c K d L' c' K' d' : Nat) (w' : World) : Prop:=Below w.heap.size w w' ∧ Box w' w.heap.size (.slice A L c) (.slice P K d) 27 ∧ Box w' (w.heap.size + 1) (.slice A' L' c') (.slice P' K' d') 27
theorem R2.bel {w w1 : World} {A P A' P' : Option Addr} {L c K d L' c' K' d' : Nat} (h : R2 w A P A' P' L c K d L' c' K' d' w1) : Below w.heap.size w w1:=h.1
theorem R2.one {w w1 : World} {A P A' P' : Option Addr} {L c K d L' c' K' d' : Nat} (h : R2 w A P A' P' L c K d L' c' K' d' w1) : Box w1 w.heap.size (.slice A L c) (.slice P K d) 27:=h.2.1
theorem R2.two {w w1 : World} {A P A' P' : Option Addr} {L c K d L' c' K' d' : Nat} (h : R2 w A P A' P' L c K d L' c' K' d' w1) : Box w1 (w.heap.size + 1) (.slice A' L' c') (.slice P' K' d') 27:=h.2.2
theorem R2.keep {w w1 w2 : World} {A P A' P' : Option Addr} {L c K d L' c' K' d' : Nat} (h : R2 w A P A' P' L c K d L' c' K' d' w1) (b : Below w1.heap.size w1 w2) : R2 w A P A' P' L c K d L' c' K' d' w2:=⟨below_then h.1 b,h.2.1.keep b,h.2.2.keep b⟩
theorem r2_new (w : World) (A P A' P' : Option Addr) (L c K d L' c' K' d' : Nat) : R2 w A P A' P' L c K d L' c' K' d' ((w.alloc (.cells #[.slice A L c,.slice P K d] 27)).alloc (.cells #[.slice A' L' c',.slice P' K' d'] 27)) :=
  ⟨((Below.refl _ _).alloc (Nat.le_refl _) _).alloc (by simp) _,(box_two w _ _ _ _ _ _).1,(box_two w _ _ _ _ _ _).2⟩
theorem pm_eq (m o : PM) : decide (m = o) = (decide (m.1 = o.1) && decide (m.2 = o.2)):=by
  obtain ⟨a,b⟩:=m;obtain ⟨c,d⟩:=o;rw [← Bool.decide_and];simp
end Go.Proofs.YtlgnijhemfkflaaGreatDoor

namespace Go.Proofs.YtlgnijhemfkflaaGreatDoor
open Go.RowKit


theorem R2.drewN {w w1 : World} {A P A' P' : Option Addr} {L c K d L' c' K' d' : Nat} (h : R2 w A P A' P' L c K d L' c' K' d' w1) (i : Nat) : R2 w A P A' P' L c K d L' c' K' d' (w1.drewN i):=⟨h.1.trans (Go.Joins.below_draws _ _ _),h.2.1,h.2.2⟩
theorem str_neq {a b : ByteArray} (h : a ≠ b) : (a.toList != b.toList) = true:=by rw [bne,str_ne h]; rfl
theorem Byt.drewN {w : World} {v : Value} {l : List UInt8} (h : Byt w v l) (i : Nat) : Byt (w.drewN i) v l:=h
theorem rsame_at (A P A' P' : Option Addr) (L c K d L' c' K' d' : Nat) (m o : PM) (w : World) (HM : Hid (IsMem w (.agg #[.slice A L c,.slice P K d]) m)) (HO : Hid (IsMem w (.agg #[.slice A' L' c',.slice P' K' d']) o)) :
    Calls Tryz.prog 31 #[.agg #[.slice A L c,.slice P K d],.agg #[.slice A' L' c',.slice P' K' d']] w fun e w' => e = .returned (.bool (decide (m = o))) ∧ Below w.heap.size w w':=by
  have R0:=zqh (r2_new w A P A' P' L c K d L' c' K' d');have hk1:=HM.out.big.2;have hk2:=HO.out.big.2;unfold maxLen at hk1 hk2;have c1:=(HM.out.keep R0.out.bel).byt.conv;have c2:=(HO.out.keep R0.out.bel).byt.conv;have hz1 : w.heap.size < w.heap.size + 1:=by omega
  obtain ⟨R,hR⟩ : ∃ R,decide (m = o) = R:=⟨_,rfl⟩;rw [hR];have HR:=zqh hR;clear hR
  by_cases h1 : m.1 = o.1
  · rw [h1] at c1
    obtain ⟨s,hs⟩ : ∃ s,strB o.1 = s:=⟨_,rfl⟩;rw [hs] at c1 c2;have HR2 : Hid (R = decide (m.2 = o.2)):=by rw [← HR.out,pm_eq,decide_eq_true h1]; rfl
    clear hs
    by_cases hK : K = K'
    · subst hK
      have hKK : ((K : Int) != (K : Int)) = false:=by simp
      clear h1;go_enter Tryz.func31,Tryz.ntmps31;go_wp2;clear c1 c2
      go_loopw [5] (fun i wr => ∃ j : Nat,j ≤ K ∧ i = .int .i64 (j : Int) ∧ Hid (m.2.take j = o.2.take j) ∧ R2 w A P A' P' L c K d L' c' K d' wr) (fun i _ => K - (intOf i).toNat)
      case atStart => exact ⟨0,Nat.zero_le _,rfl,by simp [Hid],R0.out⟩
      case round =>
        obtain ⟨j,hj,rfl,hall,hr2⟩:=hrel
        by_cases hlt : j < K
        · obtain ⟨g,o1,B,n,e,p,rfl,hg,hp,hc1,hc2,hby,hn,hKd⟩:=mem_patch HM.out hlt
          obtain ⟨g',o1',B',n',e',p',rfl,hg',hp',hc1',hc2',hby',hn',hKd'⟩:=mem_patch HO.out hlt;have d1 : wr.cell? ⟨g,o1 + j * 2,none⟩ = some (.int .i64 p.1):=(hr2.bel.cell (p:=⟨g,o1 + j * 2,none⟩) hg).trans hc1;have d2 : wr.cell? ⟨g,o1 + j * 2 + 1,none⟩ = some (.slice B n e):=(hr2.bel.cell (p:=⟨g,o1 + j * 2 + 1,none⟩) hg).trans hc2;have d3 : wr.cell? ⟨g',o1' + j * 2,none⟩ = some (.int .i64 p'.1):=(hr2.bel.cell (p:=⟨g',o1' + j * 2,none⟩) hg').trans hc1';have d4 : wr.cell? ⟨g',o1' + j * 2 + 1,none⟩ = some (.slice B' n' e'):=(hr2.bel.cell (p:=⟨g',o1' + j * 2 + 1,none⟩) hg').trans hc2';obtain ⟨q0,q1,_,_⟩:=hr2.one.use;obtain ⟨q2,q3,_,_⟩:=hr2.two.use;have v1:=fun i => ((hby.keep hr2.bel).drewN i).conv
          have v2:=fun i => ((hby'.keep hr2.bel).drewN i).conv
          have HP:=zqh hp;have HP':=zqh hp';have HRR:=zqh hr2;have hji : (j : Int) < (K : Int):=by omega
          obtain ⟨a1,ha1⟩ : ∃ a1,p.1 = a1:=⟨_,rfl⟩;obtain ⟨a2,ha2⟩ : ∃ a2,p'.1 = a2:=⟨_,rfl⟩;rw [ha1] at d1;rw [ha2] at d3;have HA1:=zqh ha1;have HA2:=zqh ha2;clear hby hby' hp hp' hc1 hc2 hc1' hc2' hr2 ha1 ha2
          by_cases ha : a1 = a2
          · subst ha
            have hab : (a1 != a1) = false:=by simp
            by_cases hs : p.2 = p'.2
            · rw [hs] at v1
              generalize strB p'.2 = t at v1 v2;(go_wp2_with fail)
              go_quiet (fail)
              have HA : Hid (m.2.take (j + 1) = o.2.take (j + 1)):=take_eq_step hall.out HP.out HP'.out (by
                obtain ⟨x,y⟩:=p;obtain ⟨x',y'⟩:=p';have h1:=HA1.out;have h2:=HA2.out;simp only at h1 h2;simp only at hs
                rw [h1,h2,hs])
              have HF:=fun i => HRR.out.drewN i
              have HFF:=zqh HF;clear HF v1 v2 d1 d2 d3 d4 q0 q1 q2 q3;go_wp2
              go_roundw
              case rel => exact ⟨j + 1,by omega,by go_num,HA.out,HFF.out _⟩
              case measure => simp [intOf]; omega
            · have HA : Hid (R = false):=by
                rw [HR2.out,decide_eq_false_iff_not];intro e;have x1:=HP.out;rw [e,HP'.out] at x1;injection x1 with x1
                rw [x1] at hs;exact hs rfl
              have hne : strB p.2 ≠ strB p'.2:=fun h => hs (strB_inj h)
              generalize strB p.2 = t1 at v1 hne;generalize strB p'.2 = t2 at v2 hne;have hne':=str_neq hne;have hne2:=str_ne hne;clear hs hne;(go_wp2_with fail)
              go_quiet (fail)
              have HF:=fun i => HRR.out.drewN i
              have HFF:=zqh HF;clear HF v1 v2 d1 d2 d3 d4 q0 q1 q2 q3;go_wp2;go_ret;exact ⟨ret_bool HA.out.symm,(HFF.out _).bel⟩
          · have hab : (a1 != a2) = true:=by simp [ha]
            have HA : Hid (R = false):=by
              rw [HR2.out,decide_eq_false_iff_not];intro e;have x1:=HP.out;rw [e,HP'.out] at x1;injection x1 with x1
              rw [x1] at HA2;exact ha (HA1.out.symm.trans HA2.out)
            clear ha;(go_wp2_with fail)
            go_quiet (fail)
            have HF:=fun i => HRR.out.drewN i
            have HFF:=zqh HF;clear HF v1 v2 d1 d2 d3 d4 q0 q1 q2 q3;go_wp2;go_ret;exact ⟨ret_bool HA.out.symm,(HFF.out _).bel⟩
        · have hjk : j = K:=by omega
          subst hjk;have HA : Hid (R = true):=by
            have x1:=HM.out.len2;have x2:=HO.out.len2;have x3:=hall.out;rw [List.take_of_length_le (by omega),List.take_of_length_le (by omega)] at x3;rw [HR2.out,decide_eq_true x3];rfl
          obtain ⟨q0,q1,_,_⟩:=hr2.one.use;have HRR:=zqh hr2;clear hr2;go_wp2;go_ret;exact ⟨ret_bool HA.out.symm,HRR.out.bel⟩
    · have HA : Hid (R = false):=by
        rw [HR2.out,decide_eq_false_iff_not];intro e;have x1:=HM.out.len2;have x2:=HO.out.len2;rw [e] at x1;omega
      have hKK : ((K : Int) != (K' : Int)) = true:=by simp; omega
      clear h1 hK;go_enter Tryz.func31,Tryz.ntmps31;go_wp2;go_ret;exact ⟨ret_bool HA.out.symm,R0.out.bel⟩
  · have HA : Hid (R = false):=by rw [← HR.out,pm_eq,decide_eq_false h1]; rfl
    have hne : strB m.1 ≠ strB o.1:=fun h => h1 (strB_inj h)
    generalize strB m.1 = t1 at c1 hne;generalize strB o.1 = t2 at c2 hne;have hne':=str_neq hne;have hne2:=str_ne hne;clear h1 hne;go_enter Tryz.func31,Tryz.ntmps31;go_wp2;go_ret;exact ⟨ret_bool HA.out.symm,R0.out.bel⟩
end Go.Proofs.YtlgnijhemfkflaaGreatDoor

namespace Go.Proofs.YtlgnijhemfkflaaGreatDoor
open Go.RowKit


def sm : PM:=newF 16
def sx : PM:=storeF sm 8 258
theorem s1 : newC 16 = 0:=by decide +kernel
theorem s2 : sm.1.length = 16 ∧ sm.2.length = 0 ∧ sx.1.length = 16 ∧ sx.2.length = 1:=by decide +kernel
theorem s3 : cellC 16 8 = 0 ∧ cellC 16 9 = -9 ∧ cellC 16 4 = -23:=by decide +kernel
theorem s4 : fetchF sx 8 = 258:=by decide +kernel
theorem s5 : backC sx 0 = 0 ∧ backF sx 0 = sm:=by decide +kernel
theorem s6 : codeF (okB 16 8 2) = 0 ∧ textF sx 8 2 = [2,1] ∧ codeF (okB 16 8 1) = 0 ∧ byteF sx 8 = 2:=by decide +kernel
theorem s7 : rightB sx = true ∧ rightB ([1],[]) = false ∧ decide (sm = sm) = true ∧ decide (sx = sm) = false:=by decide +kernel
def At (b : Nat) (A P : Option Addr) (L c K d : Nat) (m : PM) (w : World) : Prop:=Box w b (.slice A L c) (.slice P K d) 27 ∧ IsMem w (.agg #[.slice A L c,.slice P K d]) m
theorem At.keep {b : Nat} {A P : Option Addr} {L c K d : Nat} {m : PM} {w w' : World} (h : At b A P L c K d m w) (k : Below w.heap.size w w') : At b A P L c K d m w':=⟨h.1.keep k,h.2.keep k⟩
theorem At.mem {b : Nat} {A P : Option Addr} {L c K d : Nat} {m : PM} {w : World} (h : At b A P L c K d m w) : IsMem w (.agg #[.slice A L c,.slice P K d]) m:=h.2
theorem At.use {b : Nat} {A P : Option Addr} {L c K d : Nat} {m : PM} {w : World} (h : At b A P L c K d m w) : w.cell? ⟨b,0,none⟩ = some (.slice A L c) ∧ w.cell? ⟨b,1,none⟩ = some (.slice P K d):=⟨h.1.use.1,h.1.use.2.1⟩
theorem At.lt {b : Nat} {A P : Option Addr} {L c K d : Nat} {m : PM} {w : World} (h : At b A P L c K d m w) : b < w.heap.size:=h.1.lt
theorem at_new {A P : Option Addr} {L c K d : Nat} {m : PM} {w : World} (h : IsMem w (.agg #[.slice A L c,.slice P K d]) m) : At w.heap.size A P L c K d m (w.alloc (.cells #[.slice A L c,.slice P K d] 27)):=⟨box_new _ _ _ _,h.keep ((Below.refl _ _).alloc (Nat.le_refl _) _)⟩
theorem al_one (w : World) (o : Obj) : Below w.heap.size w (w.alloc o):=(Below.refl _ _).alloc (Nat.le_refl _) o
end Go.Proofs.YtlgnijhemfkflaaGreatDoor

namespace Go.Proofs.YtlgnijhemfkflaaGreatDoor
open Go.ChangeShapes Go.WideShapes Go.ChangeAt Go.RowKit Go.Joins Go.Deep


theorem plain_of {w : World} {x : Addr} {v : Value} (h : w.cell? (x.add 0) = some v) : ∃ b off,x = ⟨b,off,none⟩ ∧ b < w.heap.size:=by
  obtain ⟨b,off,sp⟩:=x;have e : (⟨b,off,sp⟩ : Addr).add 0 = ⟨b,off,sp⟩:=by simp [Addr.add]
  rw [e] at h;have hl : b < w.heap.size:=by
    rcases Nat.lt_or_ge b w.heap.size with hl | hl
    · exact hl
    · unfold World.cell? at h
      rw [Array.getElem?_eq_none hl] at h;simp at h
  cases sp with
  | none => exact ⟨b,off,rfl,hl⟩
  | some s =>
    unfold World.cell? at h
    split at h <;> simp_all
section
variable {H : Type} {enc : TypeId × Value → H} {w : World}
theorem list_of {α : Type} (n : Nat) (R : Nat → α → Prop) (h : ∀ i,i < n → ∃ x,R i x) : ∃ l : List α,l.length = n ∧ ∀ (i : Nat) (x : α),l[i]? = some x → R i x:=by
  induction n with
  | zero => exact ⟨[],rfl,fun i x hx => by simp at hx⟩
  | succ n ih =>
    obtain ⟨l,h1,h2⟩:=ih fun i hi => h i (by omega)
    obtain ⟨y,hy⟩:=h n (by omega);refine ⟨l ++ [y],by simp [h1],fun i x hx => ?_⟩
    by_cases hi : i < l.length
    · rw [List.getElem?_append_left hi] at hx
      exact h2 i x hx
    · have : i = n:=by have:=(List.getElem?_eq_some_iff.1 hx).1; simp at this; omega
      subst this;rw [List.getElem?_append_right (by omega),h1,Nat.sub_self] at hx;simp at hx;rw [← hx];exact hy
end
end Go.Proofs.YtlgnijhemfkflaaGreatDoor

namespace Go.Proofs.YtlgnijhemfkflaaGreatDoor
open Go.RowKit


def Z3 (w : World) (b1 b2 b3 : Nat) (A P A2 P2 A3 P3 : Option Addr) (L c K d L2 c2 K2 d2 L3 c3 K3 d3 : Nat) (m x y : PM) (w' : World) : Prop:=Below w.heap.size w w' ∧ At b1 A P L c K d m w' ∧ At b2 A2 P2 L2 c2 K2 d2 x w' ∧ At b3 A3 P3 L3 c3 K3 d3 y w'
section
variable {w w1 w2 : World} {b1 b2 b3 : Nat} {A P A2 P2 A3 P3 : Option Addr} {L c K d L2 c2 K2 d2 L3 c3 K3 d3 : Nat} {m x y : PM}
theorem Z3.keep (h : Z3 w b1 b2 b3 A P A2 P2 A3 P3 L c K d L2 c2 K2 d2 L3 c3 K3 d3 m x y w1) (b : Below w1.heap.size w1 w2) : Z3 w b1 b2 b3 A P A2 P2 A3 P3 L c K d L2 c2 K2 d2 L3 c3 K3 d3 m x y w2:=⟨below_then h.1 b,h.2.1.keep b,h.2.2.1.keep b,h.2.2.2.keep b⟩
theorem Z3.drew (h : Z3 w b1 b2 b3 A P A2 P2 A3 P3 L c K d L2 c2 K2 d2 L3 c3 K3 d3 m x y w1) : Z3 w b1 b2 b3 A P A2 P2 A3 P3 L c K d L2 c2 K2 d2 L3 c3 K3 d3 m x y w1.drew:=⟨h.1.drew,h.2.1,h.2.2.1,h.2.2.2⟩
theorem Z3.bel (h : Z3 w b1 b2 b3 A P A2 P2 A3 P3 L c K d L2 c2 K2 d2 L3 c3 K3 d3 m x y w1) : Below w.heap.size w w1:=h.1
theorem Z3.one (h : Z3 w b1 b2 b3 A P A2 P2 A3 P3 L c K d L2 c2 K2 d2 L3 c3 K3 d3 m x y w1) : IsMem w1 (.agg #[.slice A L c,.slice P K d]) m:=h.2.1.mem
theorem Z3.two (h : Z3 w b1 b2 b3 A P A2 P2 A3 P3 L c K d L2 c2 K2 d2 L3 c3 K3 d3 m x y w1) : IsMem w1 (.agg #[.slice A2 L2 c2,.slice P2 K2 d2]) x:=h.2.2.1.mem
theorem Z3.three (h : Z3 w b1 b2 b3 A P A2 P2 A3 P3 L c K d L2 c2 K2 d2 L3 c3 K3 d3 m x y w1) : IsMem w1 (.agg #[.slice A3 L3 c3,.slice P3 K3 d3]) y:=h.2.2.2.mem
theorem Z3.free (h : Z3 w b1 b2 b3 A P A2 P2 A3 P3 L c K d L2 c2 K2 d2 L3 c3 K3 d3 m x y w1) : IsMem w1 (.agg #[.slice A L c,.slice none 0 0]) (m.1,[]):=mem_mk h.2.1.mem.byt (pats_nil _)
end
end Go.Proofs.YtlgnijhemfkflaaGreatDoor

namespace Go.Proofs.YtlgnijhemfkflaaGreatDoor
open Go.RowKit


abbrev BOwns (w : World) (base : Nat) (v : Value) (n : Nat) (l : List UInt8) : Prop:=w.ownsRow base 5 1 v n (u8s l)
theorem BOwns.byt {w : World} {base n : Nat} {v : Value} {l : List UInt8} (h : BOwns w base v n l) : Byt w v l:=own_byt h
theorem BOwns.len {w : World} {base n : Nat} {v : Value} {l : List UInt8} (h : BOwns w base v n l) : l.length = n:=by
  have hl:=h.1;rw [u8s_len,Nat.mul_one] at hl;exact hl
theorem BOwns.alloc {w : World} {base n : Nat} {v : Value} {l : List UInt8} (h : BOwns w base v n l) (o : Obj) : BOwns (w.alloc o) base v n l:=World.ownsRow.alloc h o
theorem bowns_none (w : World) (base : Nat) : BOwns w base (.slice none 0 0) 0 []:=⟨rfl,.inl ⟨rfl,rfl⟩⟩
theorem run_bapp {w : World} (ty : TypeId) {base n : Nat} {v : Value} {xs : List UInt8} (hown : BOwns w base v n xs) {A : Option Addr} {m c : Nat} {ys : List UInt8} (hr : Byt w (.slice A m c) ys) (h63 : n + m ≤ 1000000) (hbase : base ≤ w.heap.size) :
    ∃ v' w',(Builtin.append_ #[24,24] ty #[v,.slice A m c]).run Tryz.prog w = .ok v' w' ∧ BOwns w' base v' (n + m) (xs ++ ys) ∧ w.grownBy w' v.ownBlock:=by
  obtain ⟨i0,hi,hz0,hz1,hz2⟩:=info_parts info_u8;have h1:=hr.len;have h4:=hr.lies;cases A with
  | some ad =>
    have hsrc : ∀ j u,(u8s ys)[j]? = some u → w.cell? (ad.add j) = some u:=by
      intro j u hu
      rcases h4 with h4 | ⟨g,o,e,_,hc⟩
      · rw [h4] at hu; simp at hu
      · injection e with e
        rw [e,add_at];exact hc j u hu
    obtain ⟨v',w',ha,hb,hc,_⟩:=run_append_own (P:=Tryz.prog) w base 24 ty 5 i0 (.int .u8 0) 1 1 Tryz.underlying24 hi hz0 hz1 hz2 rfl (by decide) v n (u8s xs) hown ad m c (u8s ys) (by rw [u8s_len,h1,Nat.mul_one]) hsrc (u8s_one ys) (by unfold maxLen; omega) (by omega) hbase;exact ⟨v',w',ha,by have e:=u8s_app xs ys; unfold BOwns; rw [e]; exact hb,hc⟩
  | none =>
    have hnil : ys = []:=by
      rcases h4 with h | ⟨_,_,h,_⟩
      · have:=congrArg List.length h
        rw [u8s_len] at this;exact List.eq_nil_of_length_eq_zero this
      · cases h
    subst hnil;have hm : m = 0:=by rw [← h1]; rfl
    subst hm;refine ⟨v,w,?_,by simpa using hown,World.grownBy.refl w _⟩
    rcases hown.2 with ⟨rfl,rfl⟩ | ⟨g,cap,cur,rfl,_,_,hnc,_⟩
    · simp [Builtin.append_,run_underlying Tryz.underlying24,sizeOf,typeInfo,hi,Builtin.lenOf,Builtin.firstCells]
    · simp [Builtin.append_,run_underlying Tryz.underlying24,sizeOf,typeInfo,hi,Builtin.lenOf,Builtin.firstCells,hnc,storeCells]
theorem bapp_below {w0 w w' : World} {base n : Nat} {v : Value} {xs : List UInt8} (hown : BOwns w base v n xs) (hb : Below w0.heap.size w0 w) (hg : w.grownBy w' v.ownBlock) (hB : w0.heap.size ≤ base) : Below w0.heap.size w0 w' :=
  hb.grown hg hb.size (fun k hk => Nat.le_trans hB (own_from hown k hk))
theorem wp_bapp {o : Oper} {a : Act} {K : Act → World → Prop} {Q : Exit → Act → World → Prop} {w : World} (s x : Operand)
    (ho : o.op = .call { callee:=.builtin .append,args:=#[s,x],argTypes:=#[24,24] })
    (base : Nat) (v : Value) (n : Nat) (xs : List UInt8) (hs : a.eval s = v) (hown : BOwns w base v n xs)
    (A : Option Addr) (m c : Nat) (ys : List UInt8) (hx : a.eval x = .slice A m c) (hr : Byt w (.slice A m c) ys) (h63 : n + m ≤ 1000000) (hbase : base ≤ w.heap.size)
    (w0 : World) (hb : Below w0.heap.size w0 w) (hB : w0.heap.size ≤ base)
    (h : ∀ v' w',BOwns w' base v' (n + m) (xs ++ ys) → Below w0.heap.size w0 w' → w.grownBy w' v.ownBlock → K (a.put o.dst v') w') : o.wp Tryz.prog a w K Q:=by
  obtain ⟨v',w',hr,h2,h3⟩:=run_bapp o.type hown hr h63 hbase;unfold Oper.wp execOp;simp only [ho,resolve,invoke,builtin,Sem.run_bind,Sem.run_pure,Result.andThen_ok,List.map_toArray,List.map_cons,List.map_nil,hs,hx,hr];exact h v' w' h2 (bapp_below hown hb h3 hB) h3
theorem wpList_bapp {ops : Array Oper} {rest : List Oper} {o : Oper} {a : Act} {Q : Exit → Act → World → Prop} {w : World} (hgd : o.guard = none) (s x : Operand)
    (ho : o.op = .call { callee:=.builtin .append,args:=#[s,x],argTypes:=#[24,24] })
    (base : Nat) (v : Value) (n : Nat) (xs : List UInt8) (hs : a.eval s = v) (hown : BOwns w base v n xs)
    (A : Option Addr) (m c : Nat) (ys : List UInt8) (hx : a.eval x = .slice A m c) (hr : Byt w (.slice A m c) ys) (h63 : n + m ≤ 1000000) (hbase : base ≤ w.heap.size)
    (w0 : World) (hb : Below w0.heap.size w0 w) (hB : w0.heap.size ≤ base)
    (h : ∀ v' w',BOwns w' base v' (n + m) (xs ++ ys) → Below w0.heap.size w0 w' → w.grownBy w' v.ownBlock → wpList Tryz.prog ops Q rest (a.put o.dst v') w') : wpList Tryz.prog ops Q (o :: rest) a w :=
  wpList_plain hgd fun _ hK => wp_bapp s x ho base v n xs hs hown A m c ys hx hr h63 hbase w0 hb hB fun v' w' h2 h3 h4 => hK _ _ (h v' w' h2 h3 h4)
theorem none_bowns (w : World) : BOwns (w.alloc (.cells #[] 5)) w.heap.size (.slice (some ⟨w.heap.size,0,none⟩) 0 0) 0 []:=World.ownsRow_lit w #[] 0 (Nat.le_refl _) (by unfold maxLen; omega) rfl
theorem Box.grown {w w' : World} {b : Nat} {x y : Value} {t : TypeId} {row : Option Nat} (h : Box w b x y t) (hg : w.grownBy w' row) (hne : some b ≠ row) : Box w' b x y t:=(hg.block b h.lt hne).trans h
theorem Box.keep_h {w0 w w' : World} {b : Nat} {x y : Value} {t : TypeId} (h : Box w0 b x y t) (hg : Below w.heap.size w w') (hh : w0.heap = w.heap) : Box w' b x y t:=by
  have h' : Box w b x y t:=by unfold Box at h ⊢; rw [← hh]; exact h
  exact h'.keep hg
theorem since_d (w : World) : Below w.heap.size w w.drew:=⟨rfl,rfl,rfl,Nat.le_refl _,fun _ _ => rfl⟩
theorem since_ad (w : World) (o : Obj) : Below w.heap.size w (w.alloc o).drew:=(al_one w o).trans ⟨rfl,rfl,rfl,Nat.le_refl _,fun _ _ => rfl⟩
theorem since_aa {w w1 : World} (b : Below w.heap.size w w1) (o : Obj) : Below w.heap.size w (w1.alloc o):=b.alloc b.size o
end Go.Proofs.YtlgnijhemfkflaaGreatDoor

namespace Go.Proofs.YtlgnijhemfkflaaGreatDoor
open Go.RowKit


theorem dig_u8 (n : Nat) : digF (n : Int) = ((UInt8.ofNat (digN n)).toNat : Int):=by
  unfold digF;rw [if_pos (by omega),digN_u8,Int.toNat_natCast]
def Rest (b u0 u : Nat) (l : List UInt8) : Prop:=(b ≤ u → usF b u0 = usF b (u / b) ++ l) ∧ (u < b → usF b u0 = l)
theorem us_le {b : Nat} (h2 : 2 ≤ b) : ∀ j u,u < 2 ^ (j + 1) → (usF b u).length ≤ j + 1:=by
  intro j
  induction j with
  | zero =>
    intro u hu;rw [usF_low (by omega)];simp
  | succ j ih =>
    intro u hu
    by_cases h : b ≤ u
    · rw [usF_big h2 h,List.length_append]
      have hd : u / b < 2 ^ (j + 1):=by
        rw [Nat.div_lt_iff_lt_mul (by omega)];have e : 2 ^ (j + 1 + 1) = 2 ^ (j + 1) * 2:=Nat.pow_succ _ _;have : 2 ^ (j + 1) * 2 ≤ 2 ^ (j + 1) * b:=Nat.mul_le_mul_left _ h2;omega
      have:=ih _ hd;simp;omega
    · rw [usF_low (by omega)]
      simp
theorem Rest.len {b u0 u : Nat} {l : List UInt8} (h2 : 2 ≤ b) (h : Rest b u0 u l) (h0 : u0 < 18446744073709551616) : l.length ≤ 64:=by
  have hl:=us_le h2 63 u0 (by omega)
  by_cases hu : b ≤ u
  · rw [h.1 hu,List.length_append] at hl
    omega
  · rw [h.2 (by omega)] at hl
    exact hl
theorem ushow_len (n b : Int) : (ushowF n b).length ≤ 64:=by
  unfold ushowF
  split
  · rename_i h
    have:=(baseB_iff b).1 h;exact us_le (by omega) 63 _ (by have:=un_lt n; omega)
  · simp
theorem alloc_then {w w1 : World} {o : Obj} (b : Below w.heap.size w w1) : Below w.heap.size w (w1.alloc o):=b.alloc b.size o
end Go.Proofs.YtlgnijhemfkflaaGreatDoor

namespace Go.Proofs.YtlgnijhemfkflaaGreatDoor
open Go.RowKit


theorem ix_at (l : List UInt8) (i : Nat) (c : UInt8) (h : l[i]? = some c) : ∀ w,(Instr.index 9 (.string (strB l)) (.int .i64 (i : Int))).run Tryz.prog w = .ok (.int .u8 (c.toNat : Int)) w:=by
  intro w;have hi:=(List.getElem?_eq_some_iff.1 h).1;have:=run_ix l i hi w;rw [(List.getElem?_eq_some_iff.1 h).2] at this;exact this
end Go.Proofs.YtlgnijhemfkflaaGreatDoor
