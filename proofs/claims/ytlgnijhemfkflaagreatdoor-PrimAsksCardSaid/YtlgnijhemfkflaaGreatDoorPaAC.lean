/- Part 3. -/
import Derived.Test.YtlgnijhemfkflaaGreatDoorPaAB
import Derived.Maps.AppendAt
import Derived.Deep.AppendLies
import Derived.Shelf.Bits.Mul64
import Derived.Test.YtlgnijhemfkflaaGreatDoorProg
import Derived.Lib.MakeNoZero
import Derived.Deep.RegionLaw
set_option linter.unusedVariables false
set_option linter.unusedSimpArgs false
set_option maxRecDepth 100000
set_option maxHeartbeats 4000000

namespace Go.Proofs.YtlgnijhemfkflaaGreatDoor
open Go.RowKit


theorem cellC_no {L : Nat} {p : Int} (h : okB L p 8 = false) : cellC L p = -9:=by unfold cellC; rw [h]; rfl
theorem cellC_align {L : Nat} {p : Int} (h : okB L p 8 = true) (h8 : p % 8 ≠ 0) : cellC L p = -23:=by unfold cellC; rw [if_pos h,if_neg h8]
theorem cellC_ok {L : Nat} {p : Int} (h : okB L p 8 = true) (h8 : p % 8 = 0) : cellC L p = 0:=by unfold cellC; rw [if_pos h,if_pos h8]
theorem cellCode_any (A P : Option Addr) (L c K d : Nat) (p : Int) (w : World) (hL : L ≤ 65536) :
    Calls Tryz.prog 216 #[.agg #[.slice A L c,.slice P K d],.int .i64 p] w fun e w' => e = .returned (.int .i64 (cellC L p)) ∧ Below w.heap.size w w':=by
  cases ok : okB L p 8 with
  | false =>
    have H:=zqh (cellC_no ok);go_enter Tryz.func216,Tryz.ntmps216;(go_wp2_with (go_at_call 221; (with_reducible refine (there_any _ _ _ _ _ _ _ _ _ (by omega) (by omega)).mono ?_); rintro e w1 ⟨rfl,b1⟩));go_ret;exact ⟨ret_int H.out.symm,box_below b1⟩
  | true =>
    have hok:=(okB_iff _ _ _).1 ok;have h0 : 0 ≤ p:=by omega
    by_cases h8 : p % 8 = 0
    · have H:=zqh (cellC_ok ok h8)
      have h8' : (p % 8 != 0) = false:=by simp [h8]
      clear h8 hok;go_enter Tryz.func216,Tryz.ntmps216;(go_wp2_with (go_at_call 221; (with_reducible refine (there_any _ _ _ _ _ _ _ _ _ (by omega) (by omega)).mono ?_); rintro e w1 ⟨rfl,b1⟩));go_ret;exact ⟨ret_int H.out.symm,box_below b1⟩
    · have H:=zqh (cellC_align ok h8)
      have h8' : (p % 8 != 0) = true:=by simp [h8]
      clear h8 hok;go_enter Tryz.func216,Tryz.ntmps216;(go_wp2_with (go_at_call 221; (with_reducible refine (there_any _ _ _ _ _ _ _ _ _ (by omega) (by omega)).mono ?_); rintro e w1 ⟨rfl,b1⟩));go_ret;exact ⟨ret_int H.out.symm,box_below b1⟩
def byteF (m : PM) (p : Int) : Int:=if okB m.1.length p 1 = true then ((m.1.getD p.toNat 0).toNat : Int) else 0
theorem byteF_no {m : PM} {p : Int} (h : okB m.1.length p 1 = false) : byteF m p = 0:=by unfold byteF; rw [h]; rfl
theorem mem_cell {w : World} {A : Option Addr} {L c : Nat} {y : Value} {m : PM} (h : IsMem w (.agg #[.slice A L c,y]) m) {q : Nat} (hq : q < L) : ∃ g o,A = some ⟨g,o,none⟩ ∧ g < w.heap.size ∧ w.cell? ⟨g,o + q,none⟩ = some (.int .u8 ((m.1.getD q 0).toNat : Int)) ∧ L ≤ c:=by
  have hl:=h.len1;have hb:=h.byt;have hlies:=hb.lies;have hc : L ≤ c:=by
    obtain ⟨A',c',e,h2,_⟩:=hb;injection e with _ _ e
    omega
  rcases hlies with e | ⟨g,o,e,hg,hcell⟩
  · have:=congrArg List.length e
    rw [u8s_len,hl] at this;simp at this;omega
  · refine ⟨g,o,e,hg,hcell q _ ?_,hc⟩
    rw [u8s_at (by omega)];simp [List.getD,List.getElem?_eq_getElem (by omega : q < m.1.length)]
theorem fetchByte_at (A P : Option Addr) (L c K d : Nat) (m : PM) (p : Int) (w : World) (HM : Hid (IsMem w (.agg #[.slice A L c,.slice P K d]) m)) (hL : L ≤ 65536) :
    Calls Tryz.prog 107 #[.agg #[.slice A L c,.slice P K d],.int .i64 p] w fun e w' => e = .returned (.tuple #[.int .i64 (byteF m p),.int .i64 (codeF (okB L p 1))]) ∧ Below w.heap.size w w':=by
  cases ok : okB L p 1 with
  | false =>
    have H : Hid (byteF m p = 0):=byteF_no (by rw [HM.out.len1]; exact ok);rw [H.out,codeF_no];go_enter Tryz.func107,Tryz.ntmps107;(go_wp2_with (go_at_call 221; (with_reducible refine (there_any _ _ _ _ _ _ _ _ _ (by omega) (by omega)).mono ?_); rintro e w1 ⟨rfl,b1⟩));go_ret2;exact ⟨rfl,box_below b1⟩
  | true =>
    have hok:=(okB_iff _ _ _).1 ok;obtain ⟨q,rfl⟩:=Int.eq_ofNat_of_zero_le (by omega : 0 ≤ p);have hq : q < L:=by omega
    obtain ⟨g,o,rfl,hg,hc,hLc⟩:=mem_cell HM.out hq;obtain ⟨x,hx⟩ : ∃ x : UInt8,x = m.1.getD q 0:=⟨_,rfl⟩;rw [← hx] at hc;have H : Hid (byteF m q = (x.toNat : Int)):=by unfold byteF; rw [if_pos (by rw [HM.out.len1]; exact ok),hx]; simp [Hid]
    rw [H.out,codeF_yes];have hx2:=x.toNat_lt;clear hx hok;go_enter Tryz.func107,Tryz.ntmps107;(go_wp2_with fail);refine (there_any _ _ _ _ _ _ _ _ _ (by omega) (by omega)).mono ?_;rw [ok];rintro e w1 ⟨rfl,b1⟩;obtain ⟨k0,k1⟩:=box_cells b1;have hb1:=box_below b1;have hc1 : w1.cell? ⟨g,o + q,none⟩ = some (.int .u8 (x.toNat : Int)):=(hb1.cell (p:=⟨g,o + q,none⟩) hg).trans hc;have HB:=zqh hb1;clear b1 hb1 hc;(go_wp2_with fail);go_ret2;exact ⟨rfl,HB.out⟩
end Go.Proofs.YtlgnijhemfkflaaGreatDoor

namespace Go.Proofs.YtlgnijhemfkflaaGreatDoor
open Go.RowKit


theorem own_byt {w : World} {base n : Nat} {v : Value} {l : List UInt8} (h : w.ownsRow base 5 1 v n (u8s l)) : Byt w v l:=by
  have hl:=h.1;rw [u8s_len,Nat.mul_one] at hl;subst hl
  rcases h.2 with ⟨rfl,h0⟩ | ⟨g,cap,cur,rfl,_,hg,hnc,hcm,_,ht⟩
  · have : l = []:=List.eq_nil_of_length_eq_zero h0
    subst this;exact byt_nil w
  · refine ⟨some ⟨g,0,none⟩,cap,rfl,hnc,hcm,.inr ⟨g,0,rfl,(Array.getElem?_eq_some_iff.1 hg).1,fun j x hx => ?_⟩⟩
    rw [← ht,List.getElem?_take] at hx
    split at hx
    · rw [Nat.zero_add]
      simp [World.cell?,hg];simpa using hx
    · cases hx
theorem own_from {w : World} {base e size n : Nat} {v : Value} {xs : List Value} (h : w.ownsRow base e size v n xs) : ∀ k,v.ownBlock = some k → base ≤ k:=fun k hk => (h.lt k hk).1
end Go.Proofs.YtlgnijhemfkflaaGreatDoor

namespace Go.Proofs.YtlgnijhemfkflaaGreatDoor
open Go.RowKit


def bytesTo (U k : Nat) : List Value:=(List.range k).map fun i => Value.int .u8 (byteOf U i : Int)
theorem bytesTo_eight (U : Nat) : bytesTo U 8 = [.int .u8 (byteOf U 0 : Int),.int .u8 (byteOf U 1 : Int),.int .u8 (byteOf U 2 : Int),.int .u8 (byteOf U 3 : Int),.int .u8 (byteOf U 4 : Int),.int .u8 (byteOf U 5 : Int),.int .u8 (byteOf U 6 : Int),.int .u8 (byteOf U 7 : Int)]:=rfl
def cellBytes (n : Int) : List UInt8:=[UInt8.ofNat (byteOf (un n) 0),UInt8.ofNat (byteOf (un n) 1),UInt8.ofNat (byteOf (un n) 2),UInt8.ofNat (byteOf (un n) 3),UInt8.ofNat (byteOf (un n) 4),UInt8.ofNat (byteOf (un n) 5),UInt8.ofNat (byteOf (un n) 6),UInt8.ofNat (byteOf (un n) 7)]
theorem cellBytes_len (n : Int) : (cellBytes n).length = 8:=rfl
theorem u8_byte (n i : Nat) : (UInt8.ofNat (byteOf n i)).toNat = byteOf n i:=by
  rw [UInt8.toNat_ofNat'];exact Nat.mod_eq_of_lt (byteOf_lt _ _)
theorem cellBytes_u8 (n : Int) : u8s (cellBytes n) = bytesTo (un n) 8:=by
  rw [bytesTo_eight];simp only [u8s,cellBytes,List.map_cons,List.map_nil,u8_byte]
theorem put_byt (n : Int) (w : World) : Calls Tryz.prog 220 #[.int .i64 n] w fun e w' => ∃ B k c,e = .returned (.slice B k c) ∧ Byt w' (.slice B k c) (cellBytes n) ∧ Below w.heap.size w w':=by
  refine (put_any n w).mono fun e w' ⟨g,he,_,hh,hb⟩ => ⟨_,_,_,he,?_,hb⟩
  refine byt_block (l:=cellBytes n) (t:=5) ?_ (by rw [cellBytes_len]; omega);rw [cellBytes_u8,bytesTo_eight];exact hh
def bn (m : PM) (k : Nat) : Nat:=(m.1.getD k 0).toNat
theorem bn_lt (m : PM) (k : Nat) : bn m k < 256:=UInt8.toNat_lt _
def fetchF (m : PM) (p : Int) : Int:=if cellC m.1.length p = 0 then wrap64 (eight (bn m p.toNat) (bn m (p.toNat + 1)) (bn m (p.toNat + 2)) (bn m (p.toNat + 3)) (bn m (p.toNat + 4)) (bn m (p.toNat + 5)) (bn m (p.toNat + 6)) (bn m (p.toNat + 7)) : Int) else 0
theorem mem_cells {w : World} {A : Option Addr} {L c : Nat} {y : Value} {m : PM} (h : IsMem w (.agg #[.slice A L c,y]) m) (hL : 0 < L) : ∃ g o,A = some ⟨g,o,none⟩ ∧ g < w.heap.size ∧ L ≤ c ∧ ∀ q,q < L → w.cell? ⟨g,o + q,none⟩ = some (.int .u8 (bn m q : Int)):=by
  obtain ⟨g,o,rfl,hg,_,hc⟩:=mem_cell h hL;refine ⟨g,o,rfl,hg,hc,fun q hq => ?_⟩;obtain ⟨g',o',e,_,hc',_⟩:=mem_cell h hq;injection e with e
  injection e with e1 e2
  subst e1 e2;exact hc'
theorem fetch_at (A P : Option Addr) (L c K d : Nat) (m : PM) (p : Int) (w : World) (HM : Hid (IsMem w (.agg #[.slice A L c,.slice P K d]) m)) (hL : L ≤ 65536) :
    Calls Tryz.prog 101 #[.agg #[.slice A L c,.slice P K d],.int .i64 p] w fun e w' => e = .returned (.tuple #[.int .i64 (fetchF m p),.int .i64 (cellC L p)]) ∧ Below w.heap.size w w':=by
  obtain ⟨C,hC⟩ : ∃ C,cellC L p = C:=⟨_,rfl⟩
  by_cases h0 : C = 0
  · subst h0
    have ok : okB L p 8 = true:=by
      cases e : okB L p 8 with
      | true => rfl
      | false => rw [cellC_no e] at hC; cases hC
    have hok:=(okB_iff _ _ _).1 ok;obtain ⟨q,rfl⟩:=Int.eq_ofNat_of_zero_le (by omega : 0 ≤ p);have hq : q + 8 ≤ L:=by omega
    obtain ⟨g,o,rfl,hg,hLc,hcl⟩:=mem_cells HM.out (by omega);have HF : Hid (fetchF m q = wrap64 (eight (bn m q) (bn m (q + 1)) (bn m (q + 2)) (bn m (q + 3)) (bn m (q + 4)) (bn m (q + 5)) (bn m (q + 6)) (bn m (q + 7)) : Int)):=by unfold fetchF; rw [if_pos (by rw [HM.out.len1]; exact hC)]; rfl
    have HC:=zqh hC;have hne : c ≠ q:=by omega
    have HCL:=zqh hcl;clear hC hok ok hcl;go_enter Tryz.func101,Tryz.ntmps101;(go_wp2_with fail);refine (cellCode_any _ _ _ _ _ _ _ _ hL).mono ?_;rw [HC.out];rintro e w1 ⟨rfl,b1⟩;obtain ⟨k0,k1⟩:=box_cells b1;have HB:=zqh (box_below b1);clear b1;(go_wp2_with fail);refine (get_yes ⟨g,o + q,none⟩ _ (bn m q) (bn m (q + 1)) (bn m (q + 2)) (bn m (q + 3)) (bn m (q + 4)) (bn m (q + 5)) (bn m (q + 6)) (bn m (q + 7)) _ (Nat.lt_of_lt_of_le hg HB.out.size) (bn_lt _ _) (bn_lt _ _) (bn_lt _ _) (bn_lt _ _) (bn_lt _ _) (bn_lt _ _) (bn_lt _ _) (bn_lt _ _) (zqh ?_)).mono ?_
    · intro j v hv
      rw [add_at,HB.out.cell (p:=⟨g,o + q + j,none⟩) hg]
      match j,hv with
      | 0,hv => simp at hv; rw [← hv]; exact HCL.out q (by omega)
      | 1,hv => simp at hv; rw [← hv]; exact HCL.out (q + 1) (by omega)
      | 2,hv => simp at hv; rw [← hv]; exact HCL.out (q + 2) (by omega)
      | 3,hv => simp at hv; rw [← hv]; exact HCL.out (q + 3) (by omega)
      | 4,hv => simp at hv; rw [← hv]; exact HCL.out (q + 4) (by omega)
      | 5,hv => simp at hv; rw [← hv]; exact HCL.out (q + 5) (by omega)
      | 6,hv => simp at hv; rw [← hv]; exact HCL.out (q + 6) (by omega)
      | 7,hv => simp at hv; rw [← hv]; exact HCL.out (q + 7) (by omega)
      | j + 8,hv => simp at hv
    rw [← HF.out];rintro e w2 ⟨rfl,b2⟩;have HB2:=zqh b2;clear b2;(go_wp2_with fail);go_ret2;exact ⟨by rw [HC.out]; rfl,below_then HB.out HB2.out⟩
  · have hF : fetchF m p = 0:=by unfold fetchF; rw [if_neg (by rw [HM.out.len1,hC]; exact h0)]
    rw [hF,hC];have HC:=zqh hC;have h0' : (C != 0) = true:=by simp [h0]
    clear hC hF h0;go_enter Tryz.func101,Tryz.ntmps101;(go_wp2_with fail);refine (cellCode_any _ _ _ _ _ _ _ _ hL).mono ?_;rw [HC.out];rintro e w1 ⟨rfl,b1⟩;have HB:=zqh (box_below b1);clear b1;(go_wp2_with fail);go_ret2;exact ⟨rfl,HB.out⟩
end Go.Proofs.YtlgnijhemfkflaaGreatDoor

namespace Go.Proofs.YtlgnijhemfkflaaGreatDoor
open Go.RowKit


theorem IsMem.slices {w : World} {x y : Value} {m : PM} (h : IsMem w (.agg #[x,y]) m) : ∃ A n c P k d,x = .slice A n c ∧ y = .slice P k d:=by
  obtain ⟨A,c,P,d,e,_,_⟩:=h.parts;injection e with e
  simp at e;exact ⟨A,_,c,P,_,d,e.1,e.2⟩
def Fr (w : World) (A P : Option Addr) (L c K d : Nat) (w' : World) : Prop:=Below w.heap.size w w' ∧ Box w' w.heap.size (.slice A L c) (.slice P K d) 27 ∧ Box w' (w.heap.size + 1) (.slice none 0 0) (.slice none 0 0) 27
theorem Fr.keep {w w1 w2 : World} {A P : Option Addr} {L c K d : Nat} (h : Fr w A P L c K d w1) (b : Below w1.heap.size w1 w2) : Fr w A P L c K d w2:=⟨below_then h.1 b,h.2.1.keep b,h.2.2.keep b⟩
theorem Fr.bel {w w1 : World} {A P : Option Addr} {L c K d : Nat} (h : Fr w A P L c K d w1) : Below w.heap.size w w1:=h.1
theorem Fr.drew {w w1 : World} {A P : Option Addr} {L c K d : Nat} (h : Fr w A P L c K d w1) : Fr w A P L c K d w1.drew:=⟨h.1.drew,h.2.1,h.2.2⟩
theorem fr_two {w w1 : World} {A P : Option Addr} {L c K d : Nat} (b : Below ((w.alloc (.cells #[.slice A L c,.slice P K d] 27)).alloc (.cells #[.slice none 0 0,.slice none 0 0] 27)).heap.size ((w.alloc (.cells #[.slice A L c,.slice P K d] 27)).alloc (.cells #[.slice none 0 0,.slice none 0 0] 27)) w1) : Fr w A P L c K d w1 :=
  ⟨below_two b,(box_two w _ _ _ _ _ _).1.keep b,(box_two w _ _ _ _ _ _).2.keep b⟩
theorem fr_new (w : World) (A P : Option Addr) (L c K d : Nat) : Fr w A P L c K d ((w.alloc (.cells #[.slice A L c,.slice P K d] 27)).alloc (.cells #[.slice none 0 0,.slice none 0 0] 27)) :=
  fr_two (Below.refl _ _)
theorem Fr.put {w w1 : World} {A P : Option Addr} {L c K d : Nat} (h : Fr w A P L c K d w1) (x y : Value) : Below w.heap.size w ((w1.setCell ⟨w.heap.size + 1,0,none⟩ x).setCell ⟨w.heap.size + 1,1,none⟩ y):=(h.1.setCell (by simp) _).setCell (by simp) _
theorem Fr.mem {w w1 : World} {A P : Option Addr} {L c K d : Nat} (h : Fr w A P L c K d w1) {v : Value} {m : PM} (k : IsMem w1 v m) (x y : Value) : IsMem ((w1.setCell ⟨w.heap.size + 1,0,none⟩ x).setCell ⟨w.heap.size + 1,1,none⟩ y) v m:=k.row h.2.2 (row_put _ _ _ _)
theorem byt_one3 (w : World) (A P : Option Addr) (L c K d : Nat) (x : UInt8) : Byt (((w.alloc (.cells #[.slice A L c,.slice P K d] 27)).alloc (.cells #[.slice none 0 0,.slice none 0 0] 27)).alloc (.cells #[.int .u8 (x.toNat : Int)] 5)) (.slice (some ⟨w.heap.size + 1 + 1,0,none⟩) 1 1) [x]:=by
  have h:=one_new ((w.alloc (.cells #[.slice A L c,.slice P K d] 27)).alloc (.cells #[.slice none 0 0,.slice none 0 0] 27)) #[.int .u8 (x.toNat : Int)] 5;rw [World.size_alloc,World.size_alloc] at h;exact byt_block (l:=[x]) h (by simp)
def newF (n : Int) : PM:=if newOk n = true then (List.replicate n.toNat 0,[]) else ([],[])
def newC (n : Int) : Int:=if newOk n = true then 0 else -24
theorem made_u8 (n : Nat) : (madeCells (Value.int .u8 0).cells n) = (u8s (List.replicate n 0)).toArray:=by
  apply Array.ext
  · simp [madeCells,u8s]
  · intro i h1 h2
    have e : i % 1 = 0:=by omega
    simp [madeCells,u8s,Value.cells,e]
def storeF (m : PM) (p n : Int) : PM:=if cellC m.1.length p = 0 then writeF m p (cellBytes n) else m
theorem store_ok {L : Nat} {p : Int} (h : cellC L p = 0) : okB L p 8 = true:=by
  cases e : okB L p 8 with
  | true => rfl
  | false => rw [cellC_no e] at h; cases h
def Fw (w : World) (A P : Option Addr) (L c K d : Nat) (w' : World) : Prop:=Below w.heap.size w w' ∧ Box w' w.heap.size (.slice A L c) (.slice P K d) 27 ∧ ∃ A0 n0 c0 P0 k0 d0,Box w' (w.heap.size + 1) (.slice A0 n0 c0) (.slice P0 k0 d0) 27
theorem Fw.bel {w w1 : World} {A P : Option Addr} {L c K d : Nat} (h : Fw w A P L c K d w1) : Below w.heap.size w w1:=h.1
theorem Fw.res {w w1 : World} {A P : Option Addr} {L c K d : Nat} (h : Fw w A P L c K d w1) : ∃ A0 n0 c0 P0 k0 d0,Box w1 (w.heap.size + 1) (.slice A0 n0 c0) (.slice P0 k0 d0) 27:=h.2.2
theorem fwS {w w1 : World} {A P : Option Addr} {L c K d : Nat} (h : Fr w A P L c K d w1) : w1.cell? ⟨w.heap.size,0,none⟩ = some (.slice A L c) ∧ w1.cell? ⟨w.heap.size,1,none⟩ = some (.slice P K d) ∧ Fw w A P L c K d w1 :=
  ⟨h.2.1.use.1,h.2.1.use.2.1,h.1,h.2.1,_,_,_,_,_,_,h.2.2⟩
theorem fwK {w w1 w2 : World} {A P : Option Addr} {L c K d : Nat} (h : w1.cell? ⟨w.heap.size,0,none⟩ = some (.slice A L c) ∧ w1.cell? ⟨w.heap.size,1,none⟩ = some (.slice P K d) ∧ Fw w A P L c K d w1) (b : Below w1.heap.size w1 w2) : w2.cell? ⟨w.heap.size,0,none⟩ = some (.slice A L c) ∧ w2.cell? ⟨w.heap.size,1,none⟩ = some (.slice P K d) ∧ Fw w A P L c K d w2:=by
  obtain ⟨_,_,h1,h2,A0,n0,c0,P0,k0,d0,h3⟩:=h;have h2':=h2.keep b;exact ⟨h2'.use.1,h2'.use.2.1,below_then h1 b,h2',_,_,_,_,_,_,h3.keep b⟩
theorem fwP {w w1 : World} {A P : Option Addr} {L c K d : Nat} (h : w1.cell? ⟨w.heap.size,0,none⟩ = some (.slice A L c) ∧ w1.cell? ⟨w.heap.size,1,none⟩ = some (.slice P K d) ∧ Fw w A P L c K d w1) (A' P' : Option Addr) (L' c' K' d' : Nat) : ((w1.setCell ⟨w.heap.size + 1,0,none⟩ (.slice A' L' c')).setCell ⟨w.heap.size + 1,1,none⟩ (.slice P' K' d')).cell? ⟨w.heap.size,0,none⟩ = some (.slice A L c) ∧ ((w1.setCell ⟨w.heap.size + 1,0,none⟩ (.slice A' L' c')).setCell ⟨w.heap.size + 1,1,none⟩ (.slice P' K' d')).cell? ⟨w.heap.size,1,none⟩ = some (.slice P K d) ∧ Fw w A P L c K d ((w1.setCell ⟨w.heap.size + 1,0,none⟩ (.slice A' L' c')).setCell ⟨w.heap.size + 1,1,none⟩ (.slice P' K' d')):=by
  obtain ⟨_,_,h1,h2,A0,n0,c0,P0,k0,d0,h3⟩:=h;have h2':=h2.row (row_put w1 (w.heap.size + 1) (.slice A' L' c') (.slice P' K' d')) (by omega);exact ⟨h2'.use.1,h2'.use.2.1,(h1.setCell (by simp) _).setCell (by simp) _,h2',_,_,_,_,_,_,h3.put _ _⟩
end Go.Proofs.YtlgnijhemfkflaaGreatDoor

namespace Go.Proofs
open Go.Shelf
def Tryz.lays264m_ren : Go.Shelf.Ren:=⟨fun | 264 => 208 | n => n,fun | 53 => 52 | 46 => 267 | n => n,fun | n => n⟩
theorem Tryz.lays264m : Go.Proofs.Lays.n264 Tryz.prog Tryz.lays264m_ren:={
  mixed:=by kernel_rfl
  f264:=Tryz.func208.trans (congrArg some (by kernel_rfl))
  t46:=Tryz.underlying267
  a46:=Tryz.isAgg267
  z46:=Tryz.sizeOf267
  v46:=Tryz.zeroValue267
  t53:=Tryz.underlying52
  a53:=Tryz.isAgg52
  z53:=Tryz.sizeOf52
  v53:=Tryz.zeroValue52 }
open Go.RowKit Go.Lib in
theorem Tryz.bits_Mul64m (x y : Nat) (hx : x < 18446744073709551616) (hy : y < 18446744073709551616) (w : World) :
    Calls Tryz.prog 208 #[.int .u64 x,.int .u64 y] w fun e w' => e = .returned (.tuple #[.int .u64 ((x * y / 18446744073709551616 : Nat) : Int),.int .u64 ((x * y % 18446744073709551616 : Nat) : Int)]) ∧ w' = w:=Any.bits_Mul64 Tryz.lays264m x y hx hy w
end Go.Proofs

namespace Go.Proofs.YtlgnijhemfkflaaGreatDoor
open Go.RowKit


theorem mul_one (n : Nat) (w : World) (hn : n ≤ 65536) :
    Calls Tryz.prog 276 #[.int .u64 1,.int .u64 (n : Int)] w fun e w' => e = .returned (.tuple #[.int .u64 0,.int .u64 (n : Int)]) ∧ w = w':=by
  have c:=fun w => Tryz.bits_Mul64m 1 n (by omega) (by omega) w
  rw [show (1 * n / 18446744073709551616 : Nat) = 0 by omega,show (1 * n % 18446744073709551616 : Nat) = n by omega] at c;have C:=zqh c;clear c;go_enter Tryz.func276,Tryz.ntmps276;(go_wp2_with fail);refine (C.out _).mono ?_;rintro e w' ⟨rfl,rfl⟩;(go_wp2_with fail);go_ret2;exact ⟨rfl,rfl⟩
theorem one_src {w : World} {g o : Nat} {v : Value} (hg : g < w.heap.size) (hc : w.cell? ⟨g,o,none⟩ = some v) {ob : Obj} {i : Nat} : ∀ j u,[v][j]? = some u → ((w.alloc ob).drewN i).cell? ((⟨g,o,none⟩ : Addr).add j) = some u:=by
  intro j u hu;have hj : j = 0:=by have:=(List.getElem?_eq_some_iff.1 hu).1; simp at this; omega
  subst hj;have b : Below w.heap.size w ((w.alloc ob).drewN i):=((Below.refl _ _).alloc (Nat.le_refl _) _).trans (Go.Joins.below_draws _ _ _);rw [add_at,b.cell (p:=⟨g,o + 0,none⟩) hg];simp at hu;rw [← hu];exact hc
theorem size_u8 : (Tryz.prog.info? 5).map (·.size) = some 1:=by kernel_rfl
def Filled (g k cap : Nat) (x : UInt8) (w : World) : Prop:=∃ cur : List Value,w.heap[g]? = some (.cells cur.toArray 5 (0,0)) ∧ cur.length = cap ∧ ∀ j,j < k → cur[j]? = some (.int .u8 (x.toNat : Int))
theorem repeat_one (A : Option Addr) (c : Nat) (x : UInt8) (n : Nat) (w : World) (h : Lies w A (u8s [x])) (hn : n ≤ 8192) :
    Calls Tryz.prog 223 #[.slice A 1 c,.int .i64 (n : Int)] w fun e w' => ∃ B k c',e = .returned (.slice B k c') ∧ Byt w' (.slice B k c') (List.replicate n x) ∧ Below w.heap.size w w':=by
  by_cases h0 : n = 0
  · subst h0
    go_enter Tryz.func223,Tryz.ntmps223;go_wp2;go_ret;exact ⟨_,_,_,rfl,⟨_,_,rfl,by simp,by simp [maxLen],.inl rfl⟩,(Below.refl _ _).alloc (Nat.le_refl _) _⟩
  · have h0' : ((n : Int) == 0) = false:=by simp; omega
    have h1 : decide ((8192 : Int) < (n : Int)) = false:=by simp; omega
    obtain ⟨cs,hrunM,hle,hmax⟩:=Lib.run_makeNoZero (P:=Tryz.prog) w #[3] 24 5 Tryz.underlying24 n (by omega);have hcall : (callFunc 277 #[.int .i64 (n : Int)]).run Tryz.prog w = .ok (.value (.slice (some ⟨w.heap.size,0,none⟩) n cs.size)) ((w.alloc (.cells cs 5)).drewN 2):=by
      rw [run_callFunc_extern Tryz.func277 (by kernel_rfl) (by kernel_rfl) (by kernel_rfl) (e:=Extern.BytealgMakeNoZero.makeNoZero #[3] #[24]) (by kernel_rfl),hrunM];rfl
    clear hrunM hmax;obtain ⟨Z⟩:=cs;simp only [List.size_toArray] at hle hcall;have h2 : decide ((n : Int) < 0) = false:=by simp
    have h3 : decide ((9223372036854775807 : Int) < (n : Int)) = false:=by simp; omega
    obtain ⟨g1,o1,rfl,hg1,hc1⟩ : ∃ g1 o1,A = some ⟨g1,o1,none⟩ ∧ g1 < w.heap.size ∧ w.cell? ⟨g1,o1,none⟩ = some (.int .u8 (x.toNat : Int)):=by
      rcases h with e | ⟨g1,o1,e,hg,hc⟩
      · simp [u8s] at e
      · exact ⟨g1,o1,e,hg,hc 0 _ rfl⟩
    have hz : (n : Int) ≤ (Z.length : Int):=by omega
    have hnp : 0 < n:=by omega
    clear h0 h;go_enter Tryz.func223,Tryz.ntmps223;(go_wp2_with fail);refine (mul_one n _ (by omega)).mono ?_;rintro e w' ⟨rfl,rfl⟩;(go_wp2_with (with_reducible refine wpList_copy_splice rfl (.tmp 58) (.tmp 59) 24 24 rfl 5 Tryz.underlying24 ?c0 (some ⟨w.heap.size,0,none⟩) (some ⟨g1,o1,none⟩) n n 1 c rfl rfl w.heap.size 0 Z 5 ?c1 [.int .u8 (x.toNat : Int)] ?c2 (fun _ => ⟨rfl,⟨g1,o1,none⟩,rfl,one_src hg1 hc1⟩) ?c3 ?c4 w.heap.size w ?c5 ?c6 ?_))
    case c0 => kernel_rfl
    case c1 => exact one_new _ _ _
    case c2 => show 1 = min 1 n; omega
    case c3 => show 0 + 1 ≤ Z.length; omega
    case c4 => simp [Value.oneCell']
    case c5 => exact ((Below.refl _ _).alloc (Nat.le_refl _) _).trans (Go.Joins.below_draws _ _ _)
    case c6 => omega
    intro w2 hg2 hb2;have HF : Hid (Filled w.heap.size 1 Z.length x w2):=by
      refine ⟨_,hg2.out,length_splice _ _ _ (by show 0 + 1 ≤ Z.length; omega),fun j hj => ?_⟩;obtain rfl : j = 0:=by omega
      simp [splice]
    clear hg2 hcall hc1;(go_wp2_with fail)
    go_loopw [10,11] (fun b ch wr => ∃ k : Nat,1 ≤ k ∧ k ≤ n ∧ b = .int .i64 (k : Int) ∧ Filled w.heap.size k Z.length x wr ∧ Below w.heap.size w wr) (fun b _ _ => n - (intOf b).toNat)
    case atStart => exact ⟨1,by omega,by omega,rfl,HF.out,hb2⟩
    case round =>
      obtain ⟨k,hk1,hk2,rfl,hfil,hb⟩:=hrel
      by_cases hlt : k < n
      · obtain ⟨cur,hcur,hcl,hall⟩:=hfil
        have HC:=zqh hcur;have HCL:=zqh hcl;have HA:=zqh hall;have hne : n ≠ k:=by omega
        have hmn : ¬ (n : Int) < (k : Int):=by omega
        clear hcur hcl hall;obtain ⟨t,ht⟩ : ∃ t,min k (n - k) = t:=⟨_,rfl⟩;have ht1 : t ≤ k:=by omega
        have ht2 : k + t ≤ n:=by omega
        have ht3 : 0 < t:=by omega
        have HT:=zqh ht;obtain ⟨X,hX⟩ : ∃ X : List Value,X = List.replicate t (.int .u8 (x.toNat : Int)):=⟨_,rfl⟩;have HXL : Hid (X.length = t):=by rw [hX]; simp [Hid]
        have HX:=zqh hX;have hkn1 : (k : Int) ≤ (n : Int):=by omega
        have D2 : Hid (X.length = Nat.min k (n - k)):=by rw [HXL.out]; exact ht.symm
        have HC2 : Hid (wr.drew.heap[w.heap.size]? = some (.cells cur.toArray 5 (0,0))):=HC.out;have HD : Hid (Below w.heap.size w wr.drew):=hb.drew;have D3 : Hid (∀ j v,X[j]? = some v → wr.drew.cell? ((⟨w.heap.size,0,none⟩ : Addr).add j) = some v):=by
          intro j v hv;have hj : j < t:=by have:=(List.getElem?_eq_some_iff.1 hv).1; rw [HXL.out] at this; exact this
          have hv2:=hv;rw [hX] at hv2;simp [hj] at hv2;rw [add_at,Nat.zero_add,← hv2];have h4:=HA.out j (by omega);have h5 : wr.cell? ⟨w.heap.size,j,none⟩ = some (.int .u8 (x.toNat : Int)):=by simp [World.cell?,HC.out,h4]
          exact h5
        have D4 : Hid (k + X.length ≤ cur.length):=by rw [HXL.out,HCL.out]; show _ ≤ _; omega
        have D5 : Hid (∀ v ∈ X,v.oneCell' = true):=by rw [hX]; intro v hv; rw [List.mem_replicate] at hv; rw [hv.2]; rfl
        have hwr : IntKind.i64.wrap ((k : Int) + (X.length : Int)) = ((k + t : Nat) : Int):=by rw [HXL.out,IntKind.wrap_i64]; omega
        clear ht hX;(go_wp2_with fail)
        go_region_held3 (fun w' => Below w.heap.size w w') (first | exact hb.drew | exact hb4) ((with_reducible refine step_copy_splice rfl (.tmp 70) (.tmp 73) 24 24 rfl 5 Tryz.underlying24 size_u8 (some ⟨w.heap.size,k,none⟩) (some ⟨w.heap.size,0,none⟩) (n - k) (n - k) k n rfl rfl w.heap.size k cur 5 HC2.out X D2.out (fun _ => ⟨rfl,⟨w.heap.size,0,none⟩,rfl,D3.out⟩) D4.out D5.out w.heap.size w HD.out (Nat.le_refl _) ?_; intro w4 hg4 hb4))
        have HF4 : Hid (Filled w.heap.size (k + t) Z.length x w4):=by
          have hx1:=HXL.out;have hc1:=HCL.out;refine ⟨_,hg4.out,(length_splice _ _ _ (by rw [hx1]; omega)).trans hc1,fun j hj => ?_⟩;unfold splice
          by_cases hjk : j < k
          · rw [List.getElem?_append_left (by simp; omega),List.getElem?_take,if_pos hjk]
            exact HA.out j hjk
          · rw [List.getElem?_append_right (by simp; omega),List.getElem?_append_left (by simp; omega),HX.out]
            have e1 : (cur.take k).length = k:=by simp; omega
            rw [e1,List.getElem?_replicate,if_pos (by omega)]
        have HB4:=zqh hb4;clear hg4 hb4 hb;go_wp2
        go_roundw
        case rel => exact ⟨k + t,by omega,by omega,rfl,HF4.out,HB4.out⟩
        case measure => simp [intOf]; omega
      · have hkn : k = n:=by omega
        subst hkn;obtain ⟨cur,hcur,hcl,hall⟩:=hfil;have HBY : Hid (Byt wr (.slice (some ⟨w.heap.size,0,none⟩) k k) (List.replicate k x)):=by
          refine ⟨some ⟨w.heap.size,0,none⟩,k,by simp,by simp,by unfold maxLen; omega,.inr ⟨w.heap.size,0,rfl,(Array.getElem?_eq_some_iff.1 hcur).1,fun j v hv => ?_⟩⟩;have hj : j < k:=by have:=(List.getElem?_eq_some_iff.1 hv).1; simpa [u8s] using this
          rw [Nat.zero_add];simp only [World.cell?,hcur];have h4:=hall j hj;simp [u8s,hj] at hv;simp [h4,hv]
        have HBL:=zqh hb;clear hcur hcl hall hb;go_wp2;go_ret;exact ⟨_,_,_,rfl,HBY.out,HBL.out⟩
end Go.Proofs.YtlgnijhemfkflaaGreatDoor

namespace Go.Proofs.YtlgnijhemfkflaaGreatDoor
open Go.RowKit


theorem fill_no {m : PM} {p n c : Int} (h : okB m.1.length p n = false) : fillF m p n c = m:=by unfold fillF; rw [if_neg (by simp [h])]
theorem fill_yes {m : PM} {p n c : Int} (h : okB m.1.length p n = true) : fillF m p n c = writeF m p (List.replicate n.toNat (lowB c)):=by unfold fillF; rw [if_pos h]
end Go.Proofs.YtlgnijhemfkflaaGreatDoor

namespace Go.Proofs.YtlgnijhemfkflaaGreatDoor
open Go.RowKit


theorem mem_patch {w : World} {P : Option Addr} {K d : Nat} {x : Value} {m : PM} (h : IsMem w (.agg #[x,.slice P K d]) m) {j : Nat} (hj : j < K) :
    ∃ g o B n e p,P = some ⟨g,o,none⟩ ∧ g < w.heap.size ∧ m.2[j]? = some p ∧ w.cell? ⟨g,o + j * 2,none⟩ = some (.int .i64 p.1) ∧ w.cell? ⟨g,o + j * 2 + 1,none⟩ = some (.slice B n e) ∧ Byt w (.slice B n e) p.2 ∧ n ≤ maxLen ∧ K ≤ d:=by
  have hl:=h.len2;have hp : m.2[j]? = some (m.2[j]'(by omega)):=List.getElem?_eq_getElem (by omega);obtain ⟨A',c',qs,e,hk,_,hlies,ht⟩:=h.pats;injection e with e1 _ e3
  subst e1 e3;obtain ⟨v,hq,hb⟩:=ht.at_ hp;obtain ⟨B,c,rfl⟩:=hb.form;have hlen:=pc_at qs j _ hq
  rcases hlies with e | ⟨g,o,rfl,hg,hc⟩
  · rw [e] at hlen
    simp at hlen
  · have hm : (m.2[j]'(by omega)).2.length ≤ maxLen:=by
      obtain ⟨A2,c2,e2,h2,h3,_⟩:=hb;omega
    refine ⟨g,o,B,_,c,_,rfl,hg,hp,?_,?_,hb,hm,by omega⟩
    · have:=hc (2 * j) _ hlen.1
      rw [Nat.mul_comm j 2];exact this
    · have:=hc (2 * j + 1) _ hlen.2
      rw [Nat.mul_comm j 2,Nat.add_assoc];exact this
theorem all_take_step {α : Type} {f : α → Bool} {l : List α} {j : Nat} {p : α} (h : l[j]? = some p) : (l.take (j + 1)).all f = ((l.take j).all f && f p):=by
  have hj : j < l.length:=(List.getElem?_eq_some_iff.1 h).1;have e : l[j] = p:=(List.getElem?_eq_some_iff.1 h).2;rw [List.take_succ_eq_append_getElem hj,List.all_append,e];simp
theorem all_no {α : Type} {f : α → Bool} {l : List α} {j : Nat} {p : α} (h : l[j]? = some p) (hf : f p = false) : l.all f = false:=by
  rw [List.all_eq_false];exact ⟨p,List.mem_of_getElem? h,by simp [hf]⟩
theorem IsMem.big {w : World} {A P : Option Addr} {L c K d : Nat} {m : PM} (h : IsMem w (.agg #[.slice A L c,.slice P K d]) m) : L ≤ maxLen ∧ K ≤ maxLen:=by
  have h1:=h.byt;have h2:=h.pats;obtain ⟨_,_,e,h3,h4,_⟩:=h1;obtain ⟨_,_,_,e',h5,h6,_⟩:=h2;injection e with _ e _
  injection e' with _ e' _
  omega
theorem rightB_eq (m : PM) (L : Nat) (h : m.1.length = L) : rightB m = (decide (L ≤ 65536) && decide (L % 8 = 0) && m.2.all (rightP L)):=by subst h; rfl
def Rt (w : World) (A P : Option Addr) (L c K d : Nat) (w' : World) : Prop:=Below w.heap.size w w' ∧ Box w' w.heap.size (.slice A L c) (.slice P K d) 27
theorem Rt.bel {w w1 : World} {A P : Option Addr} {L c K d : Nat} (h : Rt w A P L c K d w1) : Below w.heap.size w w1:=h.1
theorem Rt.box {w w1 : World} {A P : Option Addr} {L c K d : Nat} (h : Rt w A P L c K d w1) : Box w1 w.heap.size (.slice A L c) (.slice P K d) 27:=h.2
theorem Rt.keep {w w1 w2 : World} {A P : Option Addr} {L c K d : Nat} (h : Rt w A P L c K d w1) (b : Below w1.heap.size w1 w2) : Rt w A P L c K d w2:=⟨below_then h.1 b,h.2.keep b⟩
theorem Rt.drew {w w1 : World} {A P : Option Addr} {L c K d : Nat} (h : Rt w A P L c K d w1) : Rt w A P L c K d w1.drew:=⟨h.1.drew,h.2⟩
theorem rt_new (w : World) (A P : Option Addr) (L c K d : Nat) : Rt w A P L c K d (w.alloc (.cells #[.slice A L c,.slice P K d] 27)):=⟨(Below.refl _ _).alloc (Nat.le_refl _) _,box_new _ _ _ _⟩
end Go.Proofs.YtlgnijhemfkflaaGreatDoor
