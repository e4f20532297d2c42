/- Part 3. -/
import Derived.Test.YtcmldhjicjmmgaaGreatDoorXkAB
import Derived.Shelf.Bits.Mul64
import Derived.Test.YtcmldhjicjmmgaaGreatDoorProg
import Derived.Lib.MakeNoZero
import Derived.Deep.RegionLaw
import Derived.Laws.IdiomStrings
import Derived.Laws.BytesString
set_option linter.unusedVariables false
set_option linter.unusedSimpArgs false
set_option maxRecDepth 100000
set_option maxHeartbeats 4000000

namespace Go.Proofs.YtcmldhjicjmmgaaGreatDoor
open Go.RowKit


def bytesTo (U k : Nat) : List Value:=(List.range k).map fun i => Value.int .u8 (byteOf U i : Int)
theorem bytesTo_succ (U k : Nat) : bytesTo U (k + 1) = bytesTo U k ++ [.int .u8 (byteOf U k : Int)]:=by
  unfold bytesTo; rw [List.range_succ,List.map_append]; rfl
theorem bytesTo_eight (U : Nat) : bytesTo U 8 = [.int .u8 (byteOf U 0 : Int),.int .u8 (byteOf U 1 : Int),.int .u8 (byteOf U 2 : Int),.int .u8 (byteOf U 3 : Int),.int .u8 (byteOf U 4 : Int),.int .u8 (byteOf U 5 : Int),.int .u8 (byteOf U 6 : Int),.int .u8 (byteOf U 7 : Int)]:=rfl
theorem Tryz.info5 : (Tryz.prog.info? 5).map (fun i => (i.zero,i.size,i.bytes)) = some (some (.int .u8 0),1,1):=by kernel_rfl
theorem rput_any (n : Int) (w : World) :
    Calls Tryz.prog 25 #[.int .i64 n] w fun e w' => ∃ v,e = .returned v ∧ w'.ownsRow w.heap.size 5 1 v 8 (bytesTo (un n) 8) ∧ Below w.heap.size w w':=by
  have e1:=un_cast n;obtain ⟨i0,hi,hz0,hz1,hz2⟩:=info_parts Tryz.info5;go_enter Tryz.func25,Tryz.ntmps25;go_wp2
  go_loopw [3,4,5] (fun u v i wr => ∃ k : Nat,k ≤ 8 ∧ i = .int .i64 (k : Int) ∧ u = .int .u64 ((un n / 256 ^ k : Nat) : Int) ∧ wr.ownsRow w.heap.size 5 1 v k (bytesTo (un n) k) ∧ Below w.heap.size w wr) (fun _ _ i _ => 8 - (intOf i).toNat)
  case atStart => exact ⟨0,Nat.zero_le _,rfl,by simp,World.ownsRow_nil _ _ _ _,Below.refl _ _⟩
  case round =>
    obtain ⟨k,hk,rfl,rfl,hown,hb⟩:=hrel;obtain ⟨b,hbk⟩ : ∃ b : Nat,byteOf (un n) k = b:=⟨_,rfl⟩;have hbk' : un n / 256 ^ k % 256 = b:=hbk;have hnext : un n / 256 ^ (k + 1) = un n / 256 ^ k / 256:=by rw [Nat.pow_succ,← Nat.div_div_eq_div_mul]
    have hlow : un n / 256 ^ k < 18446744073709551616:=Nat.lt_of_le_of_lt (Nat.div_le_self _ _) (un_lt n);generalize un n / 256 ^ k = t at *;have et : (t : Int) % 256 = (b : Int):=by omega
    have ht : (t : Int) ≤ 18446744073709551615:=by omega
    have hb8 : (b : Int) ≤ 255:=by omega
    have HB:=zqh hbk;have HN:=zqh hnext;clear hbk hbk' hnext hlow
    by_cases hlt : k < 8
    · go_wp2_with (at_builtin; refine wpList_append_own _ rfl _ _ 26 rfl w.heap.size 5 i0 (.int .u8 0) 1 1 Tryz.underlying26 hi hz0 hz1 hz2 rfl (by decide) _ _ _ rfl (hown.alloc _) ⟨wr.heap.size,0,none⟩ 1 1 [.int .u8 (b : Int)] rfl rfl ?c1 ?c2 ?c3 ?c4 ?c5 ?_)
      case c1 => exact cell_one_new _ _ _
      case c2 => simp [Value.oneCell']
      case c3 => unfold maxLen; omega
      case c4 => omega
      case c5 => have:=hb.size; simp; omega
      intro v' w2 hown2 hgrow _;have hb2 : Below w.heap.size w w2:=(hb.alloc hb.size _).grown hgrow (by have:=hb.size; simp; omega) (own_from hown);rw [← HB.out,← bytesTo_succ] at hown2;clear hown hb hgrow;go_wp2
      go_roundw
      case rel => exact ⟨k + 1,by omega,by go_num,by rw [HN.out]; go_num,hown2,hb2⟩
      case measure => simp [intOf]; omega
    · have hk8 : k = 8:=by omega
      subst hk8;go_wp2;go_ret;exact ⟨_,rfl,hown,hb⟩
def cellBytes (n : Int) : List UInt8:=[UInt8.ofNat (byteOf (un n) 0),UInt8.ofNat (byteOf (un n) 1),UInt8.ofNat (byteOf (un n) 2),UInt8.ofNat (byteOf (un n) 3),UInt8.ofNat (byteOf (un n) 4),UInt8.ofNat (byteOf (un n) 5),UInt8.ofNat (byteOf (un n) 6),UInt8.ofNat (byteOf (un n) 7)]
theorem cellBytes_len (n : Int) : (cellBytes n).length = 8:=rfl
theorem u8_byte (n i : Nat) : (UInt8.ofNat (byteOf n i)).toNat = byteOf n i:=by
  rw [UInt8.toNat_ofNat'];exact Nat.mod_eq_of_lt (byteOf_lt _ _)
theorem cellBytes_u8 (n : Int) : u8s (cellBytes n) = bytesTo (un n) 8:=by
  rw [bytesTo_eight];simp only [u8s,cellBytes,List.map_cons,List.map_nil,u8_byte]
theorem rput_byt (n : Int) (w : World) : Calls Tryz.prog 25 #[.int .i64 n] w fun e w' => ∃ B k c,e = .returned (.slice B k c) ∧ Byt w' (.slice B k c) (cellBytes n) ∧ Below w.heap.size w w':=by
  refine (rput_any n w).mono fun e w' ⟨v,he,ho,hb⟩ => ?_
  rw [← cellBytes_u8] at ho;obtain ⟨B,c,rfl⟩:=(own_byt ho).form;exact ⟨B,_,c,he,own_byt ho,hb⟩
def bn (m : PM) (k : Nat) : Nat:=(m.1.getD k 0).toNat
theorem bn_lt (m : PM) (k : Nat) : bn m k < 256:=UInt8.toNat_lt _
def fetchF (m : PM) (p : Int) : Int:=if cellC m.1.length p = 0 then wrap64 (eight (bn m p.toNat) (bn m (p.toNat + 1)) (bn m (p.toNat + 2)) (bn m (p.toNat + 3)) (bn m (p.toNat + 4)) (bn m (p.toNat + 5)) (bn m (p.toNat + 6)) (bn m (p.toNat + 7)) : Int) else 0
theorem mem_cells {w : World} {A : Option Addr} {L c : Nat} {y : Value} {m : PM} (h : IsMem w (.agg #[.slice A L c,y]) m) (hL : 0 < L) : ∃ g o,A = some ⟨g,o,none⟩ ∧ g < w.heap.size ∧ L ≤ c ∧ ∀ q,q < L → w.cell? ⟨g,o + q,none⟩ = some (.int .u8 (bn m q : Int)):=by
  obtain ⟨g,o,rfl,hg,_,hc⟩:=mem_cell h hL;refine ⟨g,o,rfl,hg,hc,fun q hq => ?_⟩;obtain ⟨g',o',e,_,hc',_⟩:=mem_cell h hq;injection e with e
  injection e with e1 e2
  subst e1 e2;exact hc'
theorem fetch_at (A P : Option Addr) (L c K d : Nat) (m : PM) (p : Int) (w : World) (HM : Hid (IsMem w (.agg #[.slice A L c,.slice P K d]) m)) (hL : L ≤ 65536) :
    Calls Tryz.prog 38 #[.agg #[.slice A L c,.slice P K d],.int .i64 p] w fun e w' => e = .returned (.tuple #[.int .i64 (fetchF m p),.int .i64 (cellC L p)]) ∧ Below w.heap.size w w':=by
  obtain ⟨C,hC⟩ : ∃ C,cellC L p = C:=⟨_,rfl⟩
  by_cases h0 : C = 0
  · subst h0
    have ok : okB L p 8 = true:=by
      cases e : okB L p 8 with
      | true => rfl
      | false => rw [cellC_no e] at hC; cases hC
    have hok:=(okB_iff _ _ _).1 ok;obtain ⟨q,rfl⟩:=Int.eq_ofNat_of_zero_le (by omega : 0 ≤ p);have hq : q + 8 ≤ L:=by omega
    obtain ⟨g,o,rfl,hg,hLc,hcl⟩:=mem_cells HM.out (by omega);have HF : Hid (fetchF m q = wrap64 (eight (bn m q) (bn m (q + 1)) (bn m (q + 2)) (bn m (q + 3)) (bn m (q + 4)) (bn m (q + 5)) (bn m (q + 6)) (bn m (q + 7)) : Int)):=by unfold fetchF; rw [if_pos (by rw [HM.out.len1]; exact hC)]; rfl
    have HC:=zqh hC;have hne : c ≠ q:=by omega
    have HCL:=zqh hcl;clear hC hok ok hcl;go_enter Tryz.func38,Tryz.ntmps38;(go_wp2_with fail);refine (cellCode_any _ _ _ _ _ _ _ _ hL).mono ?_;rw [HC.out];rintro e w1 ⟨rfl,b1⟩;obtain ⟨k0,k1⟩:=box_cells b1;have HB:=zqh (box_below b1);clear b1;(go_wp2_with fail);refine (get_yes ⟨g,o + q,none⟩ _ (bn m q) (bn m (q + 1)) (bn m (q + 2)) (bn m (q + 3)) (bn m (q + 4)) (bn m (q + 5)) (bn m (q + 6)) (bn m (q + 7)) _ (Nat.lt_of_lt_of_le hg HB.out.size) (bn_lt _ _) (bn_lt _ _) (bn_lt _ _) (bn_lt _ _) (bn_lt _ _) (bn_lt _ _) (bn_lt _ _) (bn_lt _ _) (zqh ?_)).mono ?_
    · intro j v hv
      rw [add_at,HB.out.cell (p:=⟨g,o + q + j,none⟩) hg]
      match j,hv with
      | 0,hv => simp at hv; rw [← hv]; exact HCL.out q (by omega)
      | 1,hv => simp at hv; rw [← hv]; exact HCL.out (q + 1) (by omega)
      | 2,hv => simp at hv; rw [← hv]; exact HCL.out (q + 2) (by omega)
      | 3,hv => simp at hv; rw [← hv]; exact HCL.out (q + 3) (by omega)
      | 4,hv => simp at hv; rw [← hv]; exact HCL.out (q + 4) (by omega)
      | 5,hv => simp at hv; rw [← hv]; exact HCL.out (q + 5) (by omega)
      | 6,hv => simp at hv; rw [← hv]; exact HCL.out (q + 6) (by omega)
      | 7,hv => simp at hv; rw [← hv]; exact HCL.out (q + 7) (by omega)
      | j + 8,hv => simp at hv
    rw [← HF.out];rintro e w2 ⟨rfl,b2⟩;have HB2:=zqh b2;clear b2;(go_wp2_with fail);go_ret2;exact ⟨by rw [HC.out]; rfl,below_then HB.out HB2.out⟩
  · have hF : fetchF m p = 0:=by unfold fetchF; rw [if_neg (by rw [HM.out.len1,hC]; exact h0)]
    rw [hF,hC];have HC:=zqh hC;have h0' : (C != 0) = true:=by simp [h0]
    clear hC hF h0;go_enter Tryz.func38,Tryz.ntmps38;(go_wp2_with fail);refine (cellCode_any _ _ _ _ _ _ _ _ hL).mono ?_;rw [HC.out];rintro e w1 ⟨rfl,b1⟩;have HB:=zqh (box_below b1);clear b1;(go_wp2_with fail);go_ret2;exact ⟨rfl,HB.out⟩


theorem IsMem.slices {w : World} {x y : Value} {m : PM} (h : IsMem w (.agg #[x,y]) m) : ∃ A n c P k d,x = .slice A n c ∧ y = .slice P k d:=by
  obtain ⟨A,c,P,d,e,_,_⟩:=h.parts;injection e with e
  simp at e;exact ⟨A,_,c,P,_,d,e.1,e.2⟩
def Fr (w : World) (A P : Option Addr) (L c K d : Nat) (w' : World) : Prop:=Below w.heap.size w w' ∧ Box w' w.heap.size (.slice A L c) (.slice P K d) 29 ∧ Box w' (w.heap.size + 1) (.slice none 0 0) (.slice none 0 0) 29
theorem Fr.keep {w w1 w2 : World} {A P : Option Addr} {L c K d : Nat} (h : Fr w A P L c K d w1) (b : Below w1.heap.size w1 w2) : Fr w A P L c K d w2:=⟨below_then h.1 b,h.2.1.keep b,h.2.2.keep b⟩
theorem Fr.bel {w w1 : World} {A P : Option Addr} {L c K d : Nat} (h : Fr w A P L c K d w1) : Below w.heap.size w w1:=h.1
theorem Fr.drew {w w1 : World} {A P : Option Addr} {L c K d : Nat} (h : Fr w A P L c K d w1) : Fr w A P L c K d w1.drew:=⟨h.1.drew,h.2.1,h.2.2⟩
theorem fr_two {w w1 : World} {A P : Option Addr} {L c K d : Nat} (b : Below ((w.alloc (.cells #[.slice A L c,.slice P K d] 29)).alloc (.cells #[.slice none 0 0,.slice none 0 0] 29)).heap.size ((w.alloc (.cells #[.slice A L c,.slice P K d] 29)).alloc (.cells #[.slice none 0 0,.slice none 0 0] 29)) w1) : Fr w A P L c K d w1 :=
  ⟨below_two b,(box_two w _ _ _ _ _ _).1.keep b,(box_two w _ _ _ _ _ _).2.keep b⟩
theorem Fr.put {w w1 : World} {A P : Option Addr} {L c K d : Nat} (h : Fr w A P L c K d w1) (x y : Value) : Below w.heap.size w ((w1.setCell ⟨w.heap.size + 1,0,none⟩ x).setCell ⟨w.heap.size + 1,1,none⟩ y):=(h.1.setCell (by simp) _).setCell (by simp) _
theorem Fr.mem {w w1 : World} {A P : Option Addr} {L c K d : Nat} (h : Fr w A P L c K d w1) {v : Value} {m : PM} (k : IsMem w1 v m) (x y : Value) : IsMem ((w1.setCell ⟨w.heap.size + 1,0,none⟩ x).setCell ⟨w.heap.size + 1,1,none⟩ y) v m:=k.row h.2.2 (row_put _ _ _ _)
def newF (n : Int) : PM:=if newOk n = true then (List.replicate n.toNat 0,[]) else ([],[])
def newC (n : Int) : Int:=if newOk n = true then 0 else -24
def storeF (m : PM) (p n : Int) : PM:=if cellC m.1.length p = 0 then writeF m p (cellBytes n) else m
theorem store_ok {L : Nat} {p : Int} (h : cellC L p = 0) : okB L p 8 = true:=by
  cases e : okB L p 8 with
  | true => rfl
  | false => rw [cellC_no e] at h; cases h
def Fw (w : World) (A P : Option Addr) (L c K d : Nat) (w' : World) : Prop:=Below w.heap.size w w' ∧ Box w' w.heap.size (.slice A L c) (.slice P K d) 29 ∧ ∃ A0 n0 c0 P0 k0 d0,Box w' (w.heap.size + 1) (.slice A0 n0 c0) (.slice P0 k0 d0) 29
theorem Fw.bel {w w1 : World} {A P : Option Addr} {L c K d : Nat} (h : Fw w A P L c K d w1) : Below w.heap.size w w1:=h.1
theorem Fw.res {w w1 : World} {A P : Option Addr} {L c K d : Nat} (h : Fw w A P L c K d w1) : ∃ A0 n0 c0 P0 k0 d0,Box w1 (w.heap.size + 1) (.slice A0 n0 c0) (.slice P0 k0 d0) 29:=h.2.2
theorem fwS {w w1 : World} {A P : Option Addr} {L c K d : Nat} (h : Fr w A P L c K d w1) : w1.cell? ⟨w.heap.size,0,none⟩ = some (.slice A L c) ∧ w1.cell? ⟨w.heap.size,1,none⟩ = some (.slice P K d) ∧ Fw w A P L c K d w1 :=
  ⟨h.2.1.use.1,h.2.1.use.2.1,h.1,h.2.1,_,_,_,_,_,_,h.2.2⟩
theorem fwK {w w1 w2 : World} {A P : Option Addr} {L c K d : Nat} (h : w1.cell? ⟨w.heap.size,0,none⟩ = some (.slice A L c) ∧ w1.cell? ⟨w.heap.size,1,none⟩ = some (.slice P K d) ∧ Fw w A P L c K d w1) (b : Below w1.heap.size w1 w2) : w2.cell? ⟨w.heap.size,0,none⟩ = some (.slice A L c) ∧ w2.cell? ⟨w.heap.size,1,none⟩ = some (.slice P K d) ∧ Fw w A P L c K d w2:=by
  obtain ⟨_,_,h1,h2,A0,n0,c0,P0,k0,d0,h3⟩:=h;have h2':=h2.keep b;exact ⟨h2'.use.1,h2'.use.2.1,below_then h1 b,h2',_,_,_,_,_,_,h3.keep b⟩
theorem fwP {w w1 : World} {A P : Option Addr} {L c K d : Nat} (h : w1.cell? ⟨w.heap.size,0,none⟩ = some (.slice A L c) ∧ w1.cell? ⟨w.heap.size,1,none⟩ = some (.slice P K d) ∧ Fw w A P L c K d w1) (A' P' : Option Addr) (L' c' K' d' : Nat) : ((w1.setCell ⟨w.heap.size + 1,0,none⟩ (.slice A' L' c')).setCell ⟨w.heap.size + 1,1,none⟩ (.slice P' K' d')).cell? ⟨w.heap.size,0,none⟩ = some (.slice A L c) ∧ ((w1.setCell ⟨w.heap.size + 1,0,none⟩ (.slice A' L' c')).setCell ⟨w.heap.size + 1,1,none⟩ (.slice P' K' d')).cell? ⟨w.heap.size,1,none⟩ = some (.slice P K d) ∧ Fw w A P L c K d ((w1.setCell ⟨w.heap.size + 1,0,none⟩ (.slice A' L' c')).setCell ⟨w.heap.size + 1,1,none⟩ (.slice P' K' d')):=by
  obtain ⟨_,_,h1,h2,A0,n0,c0,P0,k0,d0,h3⟩:=h;have h2':=h2.row (row_put w1 (w.heap.size + 1) (.slice A' L' c') (.slice P' K' d')) (by omega);exact ⟨h2'.use.1,h2'.use.2.1,(h1.setCell (by simp) _).setCell (by simp) _,h2',_,_,_,_,_,_,h3.put _ _⟩
end Go.Proofs.YtcmldhjicjmmgaaGreatDoor

namespace Go.Proofs
open Go.Shelf
def Tryz.lays264m_ren : Go.Shelf.Ren:=⟨fun | 264 => 221 | n => n,fun | 53 => 87 | 46 => 286 | n => n,fun | n => n⟩
theorem Tryz.lays264m : Go.Proofs.Lays.n264 Tryz.prog Tryz.lays264m_ren:={
  mixed:=by kernel_rfl
  f264:=Tryz.func221.trans (congrArg some (by kernel_rfl))
  t46:=Tryz.underlying286
  a46:=Tryz.isAgg286
  z46:=Tryz.sizeOf286
  v46:=Tryz.zeroValue286
  t53:=Tryz.underlying87
  a53:=Tryz.isAgg87
  z53:=Tryz.sizeOf87
  v53:=Tryz.zeroValue87 }
open Go.RowKit Go.Lib in
theorem Tryz.bits_Mul64m (x y : Nat) (hx : x < 18446744073709551616) (hy : y < 18446744073709551616) (w : World) :
    Calls Tryz.prog 221 #[.int .u64 x,.int .u64 y] w fun e w' => e = .returned (.tuple #[.int .u64 ((x * y / 18446744073709551616 : Nat) : Int),.int .u64 ((x * y % 18446744073709551616 : Nat) : Int)]) ∧ w' = w:=Any.bits_Mul64 Tryz.lays264m x y hx hy w
end Go.Proofs

namespace Go.Proofs.YtcmldhjicjmmgaaGreatDoor
open Go.RowKit


theorem mul_one (n : Nat) (w : World) (hn : n ≤ 65536) :
    Calls Tryz.prog 275 #[.int .u64 1,.int .u64 (n : Int)] w fun e w' => e = .returned (.tuple #[.int .u64 0,.int .u64 (n : Int)]) ∧ w = w':=by
  have c:=fun w => Tryz.bits_Mul64m 1 n (by omega) (by omega) w
  rw [show (1 * n / 18446744073709551616 : Nat) = 0 by omega,show (1 * n % 18446744073709551616 : Nat) = n by omega] at c;have C:=zqh c;clear c;go_enter Tryz.func275,Tryz.ntmps275;(go_wp2_with fail);refine (C.out _).mono ?_;rintro e w' ⟨rfl,rfl⟩;(go_wp2_with fail);go_ret2;exact ⟨rfl,rfl⟩


theorem rfree_at (A P : Option Addr) (L c K d : Nat) (w : World) :
    Calls Tryz.prog 21 #[.agg #[.slice A L c,.slice P K d]] w fun e w' => e = .returned (.agg #[.slice A L c,.slice none 0 0]) ∧ Below w.heap.size w w':=by
  go_enter Tryz.func21,Tryz.ntmps21;go_wp2;refine bodyPost_ret (v:=.agg #[.slice A L c,.slice none 0 0]) ?_ rfl ?_
  · simp [results,Tryz.results21,go_sem]
  · exact ⟨rfl,((Below.refl _ _).alloc (Nat.le_refl _) _).alloc (by simp) _⟩
theorem rwrite_sl (v u : Value) (m : PM) (b : List UInt8) (p : Int) (w : World) (h : IsMem w v m) (hu : Byt w u b) (hL : m.1.length ≤ 65536) (hK : m.2.length < 1000) (hb : b.length ≤ 65536) :
    Calls Tryz.prog 24 #[v,.int .i64 p,u] w fun e w' => ∃ A L c P K d,e = .returned (.tuple #[.agg #[.slice A L c,.slice P K d],.int .i64 (codeF (okB m.1.length p b.length))]) ∧ IsMem w' (.agg #[.slice A L c,.slice P K d]) (writeF m p b) ∧ Below w.heap.size w w':=by
  refine (rwrite_any v u m b p w h hu hL hK hb).mono fun e w' ⟨x,y,he,hm,hw⟩ => ?_
  obtain ⟨A,n,c,P,k,d,rfl,rfl⟩:=hm.slices;exact ⟨A,n,c,P,k,d,he,hm,hw⟩
theorem rstore_at (A P : Option Addr) (L c K d : Nat) (m : PM) (p n : Int) (w : World) (HM : Hid (IsMem w (.agg #[.slice A L c,.slice P K d]) m)) (hL : L ≤ 65536) (hK : K < 1000) :
    Calls Tryz.prog 14 #[.agg #[.slice A L c,.slice P K d],.int .i64 p,.int .i64 n] w fun e w' => ∃ A' L' c' P' K' d',e = .returned (.tuple #[.agg #[.slice A' L' c',.slice P' K' d'],.int .i64 (cellC L p)]) ∧ IsMem w' (.agg #[.slice A' L' c',.slice P' K' d']) (storeF m p n) ∧ Below w.heap.size w w':=by
  obtain ⟨C,hC⟩ : ∃ C,cellC L p = C:=⟨_,rfl⟩
  by_cases h0 : C = 0
  · subst h0
    have HF : Hid (storeF m p n = writeF m p (cellBytes n)):=by unfold storeF; rw [if_pos (by rw [HM.out.len1]; exact hC)]; rfl
    have ok : okB m.1.length p (cellBytes n).length = true:=by rw [HM.out.len1,cellBytes_len]; exact store_ok hC
    have CW : Hid (∀ (w1 : World) (B : Option Addr) (k e : Nat),IsMem w1 (.agg #[.slice A L c,.slice P K d]) m → Byt w1 (.slice B k e) (cellBytes n) → Calls Tryz.prog 24 #[.agg #[.slice A L c,.slice P K d],.int .i64 p,.slice B k e] w1 fun e w' => ∃ A' L' c' P' K' d',e = .returned (.tuple #[.agg #[.slice A' L' c',.slice P' K' d'],.int .i64 0]) ∧ IsMem w' (.agg #[.slice A' L' c',.slice P' K' d']) (writeF m p (cellBytes n)) ∧ Below w1.heap.size w1 w'):=by
      intro w1 B k e hm hb;have:=rwrite_sl _ _ m (cellBytes n) p w1 hm hb (by rw [HM.out.len1]; exact hL) (by rw [HM.out.len2]; exact hK) (by rw [cellBytes_len]; omega);rw [ok,codeF_yes] at this;exact this
    rw [HF.out,hC];have HC:=zqh hC;clear hC ok;go_enter Tryz.func14,Tryz.ntmps14;(go_wp2_with fail);refine (rcellAt_any _ _ _ _ _ _ _ _ hL).mono ?_;rw [HC.out];rintro e w1 ⟨rfl,b1⟩;have F1:=fr_two b1;clear b1;(go_wp2_with fail);refine wp_region_noPanic ?_
    go_region_held (fun w' => w'.cell? ⟨w.heap.size,0,none⟩ = some (.slice A L c) ∧ w'.cell? ⟨w.heap.size,1,none⟩ = some (.slice P K d) ∧ Fw w A P L c K d w') (first | assumption | exact fwS F1.drew | exact fwP (by assumption) _ _ _ _ _ _)
      (first | (go_at_call 25; ((with_reducible refine (rput_byt _ _).mono ?_); rintro e w2 ⟨B,k,e',rfl,hu2,b2⟩; have s2:=fwK (by assumption) b2)) | (go_at_call 24; ((with_reducible refine (CW.out _ _ _ _ (HM.out.keep s2.2.2.bel) hu2).mono ?_); rintro e w3 ⟨A',L',c',P',K',d',rfl,hm3,b3⟩; have s3:=fwK (by assumption) b3; obtain ⟨A0,n0,c0,P0,k0,d0,hres⟩:=s3.2.2.res; obtain ⟨q2,q3,q4,q5⟩:=hres.use)))
    all_goals (refine NoPanic.normal ?_)
    all_goals go_wp2
    all_goals refine bodyPost_ret (v:=.tuple #[.agg #[.slice A' L' c',.slice P' K' d'],.int .i64 0]) ?_ rfl ?_
    · obtain ⟨r0,r1⟩:=hres.got (.slice A' L' c') (.slice P' K' d')
      simp [results,Tryz.results14,go_sem,r0,r1]
    · exact ⟨_,_,_,_,_,_,rfl,hm3.row hres (row_put _ _ _ _),(s3.2.2.bel.setCell (by simp) _).setCell (by simp) _⟩
  · have hF : storeF m p n = m:=by unfold storeF; rw [if_neg (by rw [HM.out.len1,hC]; exact h0)]
    rw [hF,hC];have HC:=zqh hC;have h0' : (C != 0) = true:=by simp [h0]
    clear hC hF h0;go_enter Tryz.func14,Tryz.ntmps14;(go_wp2_with fail);refine (rcellAt_any _ _ _ _ _ _ _ _ hL).mono ?_;rw [HC.out];rintro e w1 ⟨rfl,b1⟩;have F1:=zqh (fr_two b1);obtain ⟨q0,q1,_,_⟩:=(fr_two b1).2.1.use;obtain ⟨q2,q3,q4,q5⟩:=(fr_two b1).2.2.use;clear b1;(go_wp2_with fail);refine bodyPost_ret (v:=.tuple #[.agg #[.slice A L c,.slice P K d],.int .i64 C]) ?_ rfl ?_
    · obtain ⟨r0,r1⟩:=F1.out.2.2.got (.slice A L c) (.slice P K d)
      simp [results,Tryz.results14,go_sem,r0,r1]
    · exact ⟨_,_,_,_,_,_,rfl,F1.out.mem (HM.out.keep F1.out.1) _ _,F1.out.put _ _⟩


theorem mem_patch {w : World} {P : Option Addr} {K d : Nat} {x : Value} {m : PM} (h : IsMem w (.agg #[x,.slice P K d]) m) {j : Nat} (hj : j < K) :
    ∃ g o B n e p,P = some ⟨g,o,none⟩ ∧ g < w.heap.size ∧ m.2[j]? = some p ∧ w.cell? ⟨g,o + j * 2,none⟩ = some (.int .i64 p.1) ∧ w.cell? ⟨g,o + j * 2 + 1,none⟩ = some (.slice B n e) ∧ Byt w (.slice B n e) p.2 ∧ n ≤ maxLen ∧ K ≤ d:=by
  have hl:=h.len2;have hp : m.2[j]? = some (m.2[j]'(by omega)):=List.getElem?_eq_getElem (by omega);obtain ⟨A',c',qs,e,hk,_,hlies,ht⟩:=h.pats;injection e with e1 _ e3
  subst e1 e3;obtain ⟨v,hq,hb⟩:=ht.at_ hp;obtain ⟨B,c,rfl⟩:=hb.form;have hlen:=pc_at qs j _ hq
  rcases hlies with e | ⟨g,o,rfl,hg,hc⟩
  · rw [e] at hlen
    simp at hlen
  · have hm : (m.2[j]'(by omega)).2.length ≤ maxLen:=by
      obtain ⟨A2,c2,e2,h2,h3,_⟩:=hb;omega
    refine ⟨g,o,B,_,c,_,rfl,hg,hp,?_,?_,hb,hm,by omega⟩
    · have:=hc (2 * j) _ hlen.1
      rw [Nat.mul_comm j 2];exact this
    · have:=hc (2 * j + 1) _ hlen.2
      rw [Nat.mul_comm j 2,Nat.add_assoc];exact this
def Rt (w : World) (A P : Option Addr) (L c K d : Nat) (w' : World) : Prop:=Below w.heap.size w w' ∧ Box w' w.heap.size (.slice A L c) (.slice P K d) 29
theorem Rt.bel {w w1 : World} {A P : Option Addr} {L c K d : Nat} (h : Rt w A P L c K d w1) : Below w.heap.size w w1:=h.1
theorem Rt.box {w w1 : World} {A P : Option Addr} {L c K d : Nat} (h : Rt w A P L c K d w1) : Box w1 w.heap.size (.slice A L c) (.slice P K d) 29:=h.2
theorem Rt.keep {w w1 w2 : World} {A P : Option Addr} {L c K d : Nat} (h : Rt w A P L c K d w1) (b : Below w1.heap.size w1 w2) : Rt w A P L c K d w2:=⟨below_then h.1 b,h.2.keep b⟩
theorem Rt.drew {w w1 : World} {A P : Option Addr} {L c K d : Nat} (h : Rt w A P L c K d w1) : Rt w A P L c K d w1.drew:=⟨h.1.drew,h.2⟩


def strB (l : List UInt8) : ByteArray:=⟨l.toArray⟩
theorem strB_inj {a b : List UInt8} (h : strB a = strB b) : a = b:=by
  have : a.toArray = b.toArray:=congrArg ByteArray.data h;simpa using this
theorem str_ne {a b : ByteArray} (h : a ≠ b) : (a.toList == b.toList) = false:=by
  rw [beq_eq_false_iff_ne];intro e;rw [ByteArray.toList_eq,ByteArray.toList_eq] at e
  apply h
  cases a
  cases b
  congr 1
  exact Array.toList_inj.1 e
theorem Byt.conv {w : World} {A : Option Addr} {n c : Nat} {l : List UInt8} (h : Byt w (.slice A n c) l) : (convert 26 9 (.slice A n c)).run Tryz.prog w = .ok (.string (strB l)) w:=by
  have hl:=h.len;subst hl
  rcases h.lies with e | ⟨g,o,rfl,_,hc⟩
  · have : l = []:=by
      have:=congrArg List.length e;rw [u8s_len] at this;exact List.eq_nil_of_length_eq_zero this
    subst this;rw [run_convert_bytes_string w 26 9 5 _ _ _ Tryz.underlying26 Tryz.underlying5 Tryz.underlying9];cases A <;> simp [Conv.bytesToString,loadCells,strB]
    all_goals rfl
  · refine run_convert_bytes_back w 26 9 5 ⟨g,o,none⟩ c l Tryz.underlying26 Tryz.underlying5 Tryz.underlying9 fun j hj => ?_
    rw [add_at];exact hc j _ (u8s_at hj)
theorem equal_any (A B : Option Addr) (n c k d : Nat) (l1 l2 : List UInt8) (w : World) (h1 : Byt w (.slice A n c) l1) (h2 : Byt w (.slice B k d) l2) :
    Calls Tryz.prog 52 #[.slice A n c,.slice B k d] w fun e w' => e = .returned (.bool (decide (l1 = l2))) ∧ w = w':=by
  have c1:=h1.conv;have c2:=h2.conv;have HD : Hid (l1 = l2 ↔ strB l1 = strB l2):=⟨fun h => by rw [h],strB_inj⟩;clear h1 h2
  by_cases he : l1 = l2
  · subst he
    have HE : Hid (decide (l1 = l1) = true):=by simp [Hid]
    generalize strB l1 = s at c1 c2;clear HD;go_enter Tryz.func52,Tryz.ntmps52;go_wp2;go_ret;exact ⟨ret_bool HE.out.symm,rfl⟩
  · have HE : Hid (decide (l1 = l2) = false):=decide_eq_false he
    have hne : strB l1 ≠ strB l2:=fun h => he (strB_inj h)
    generalize strB l1 = s1 at c1 hne;generalize strB l2 = s2 at c2 hne;have hne':=str_ne hne;clear HD he hne;go_enter Tryz.func52,Tryz.ntmps52;go_wp2;go_ret;exact ⟨ret_bool HE.out.symm,rfl⟩
theorem samePatch_any (a b : Int) (A B : Option Addr) (n c k d : Nat) (l1 l2 : List UInt8) (w : World) (h1 : Hid (Byt w (.slice A n c) l1)) (h2 : Hid (Byt w (.slice B k d) l2)) :
    Calls Tryz.prog 70 #[.agg #[.int .i64 a,.slice A n c],.agg #[.int .i64 b,.slice B k d]] w fun e w' => e = .returned (.bool (decide ((a,l1) = (b,l2)))) ∧ Below w.heap.size w w':=by
  by_cases he : a = b
  · subst he
    have HD : Hid (decide ((a,l1) = (a,l2)) = decide (l1 = l2)):=by simp [Hid]
    rw [HD.out];obtain ⟨R,hR⟩ : ∃ R,decide (l1 = l2) = R:=⟨_,rfl⟩;rw [hR];have HR:=zqh hR;clear HD hR;go_enter Tryz.func70,Tryz.ntmps70;(go_wp2_with fail);have b2:=((Below.refl w.heap.size w).alloc (Nat.le_refl _) (.cells #[.int .i64 a,.slice A n c] 86)).alloc (by simp) (.cells #[.int .i64 a,.slice B k d] 86);refine (equal_any _ _ _ _ _ _ l1 l2 _ (h1.out.keep b2) (h2.out.keep b2)).mono ?_;rw [HR.out];rintro e w1 ⟨rfl,rfl⟩;have HB:=zqh b2;clear b2;(go_wp2_with fail);go_ret;exact ⟨rfl,HB.out⟩
  · have HD : Hid (decide ((a,l1) = (b,l2)) = false):=decide_eq_false (by simp [he])
    have he' : (a == b) = false:=by simp [he]
    clear he h1 h2;go_enter Tryz.func70,Tryz.ntmps70;go_wp2;go_ret;exact ⟨ret_bool HD.out.symm,((Below.refl _ _).alloc (Nat.le_refl _) _).alloc (by simp) _⟩
theorem take_eq_step {α : Type} {a b : List α} {j : Nat} {p q : α} (h : a.take j = b.take j) (hp : a[j]? = some p) (hq : b[j]? = some q) (e : p = q) : a.take (j + 1) = b.take (j + 1):=by
  have h1:=(List.getElem?_eq_some_iff.1 hp);have h2:=(List.getElem?_eq_some_iff.1 hq);obtain ⟨i1,e1⟩:=h1;obtain ⟨i2,e2⟩:=h2;rw [List.take_succ_eq_append_getElem i1,List.take_succ_eq_append_getElem i2,h,e1,e2,e]
theorem pats_len {w : World} {P : Option Addr} {K d : Nat} {ps : List Pt} (h : Pats w (.slice P K d) ps) : ps.length = K ∧ K ≤ maxLen:=by
  obtain ⟨_,_,_,e,h1,h2,_⟩:=h;injection e with _ e _
  omega
theorem equalFunc_any (P P2 : Option Addr) (K d K2 d2 : Nat) (ps qs : List Pt) (w : World) (h1 : Hid (Pats w (.slice P K d) ps)) (h2 : Hid (Pats w (.slice P2 K2 d2) qs)) :
    Calls Tryz.prog 69 #[.slice P K d,.slice P2 K2 d2,.func (.func 70) #[] #[]] w fun e w' => e = .returned (.bool (decide (ps = qs))) ∧ Below w.heap.size w w':=by
  have hk1:=(pats_len h1.out).2;have hk2:=(pats_len h2.out).2;unfold maxLen at hk1 hk2;obtain ⟨R,hR⟩ : ∃ R,decide (ps = qs) = R:=⟨_,rfl⟩;rw [hR];have HR:=zqh hR;clear hR
  by_cases hK : K = K2
  · subst hK
    go_enter Tryz.func69,Tryz.ntmps69;go_wp2
    go_loopw [17] (fun i wr => ∃ j : Nat,j ≤ K ∧ i = .int .i64 (j : Int) ∧ Hid (ps.take j = qs.take j) ∧ Below w.heap.size w wr) (fun i _ => K - (intOf i).toNat)
    case atStart => exact ⟨0,Nat.zero_le _,rfl,by simp [Hid],Below.refl _ _⟩
    case round =>
      obtain ⟨j,hj,rfl,hall,hb⟩:=hrel
      by_cases hlt : j < K
      · obtain ⟨g,o,B,n,e,p,rfl,hg,hp,hc1,hc2,hby,hn,hKd⟩:=mem_patch (mem_mk (m:=([],ps)) (byt_nil w) h1.out) hlt
        obtain ⟨g',o',B',n',e',p',rfl,hg',hp',hc1',hc2',hby',hn',hKd'⟩:=mem_patch (mem_mk (m:=([],qs)) (byt_nil w) h2.out) hlt;have d1 : wr.cell? ⟨g,o + j * 2,none⟩ = some (.int .i64 p.1):=(hb.cell (p:=⟨g,o + j * 2,none⟩) hg).trans hc1;have d2 : wr.cell? ⟨g,o + j * 2 + 1,none⟩ = some (.slice B n e):=(hb.cell (p:=⟨g,o + j * 2 + 1,none⟩) hg).trans hc2;have d3 : wr.cell? ⟨g',o' + j * 2,none⟩ = some (.int .i64 p'.1):=(hb.cell (p:=⟨g',o' + j * 2,none⟩) hg').trans hc1';have d4 : wr.cell? ⟨g',o' + j * 2 + 1,none⟩ = some (.slice B' n' e'):=(hb.cell (p:=⟨g',o' + j * 2 + 1,none⟩) hg').trans hc2';have hl1:=Nat.lt_of_lt_of_le hg hb.size;have hl2:=Nat.lt_of_lt_of_le hg' hb.size;have HY:=zqh hby;have HY':=zqh hby';have HP:=zqh hp;have HP':=zqh hp';have HB:=zqh hb;have hji : (j : Int) < (K : Int):=by omega
        clear hby hby' hp hp' hc1 hc2 hc1' hc2' hb;(go_wp2_with fail);refine (samePatch_any _ _ _ _ _ _ _ _ p.2 p'.2 _ (HY.out.keep ((HB.out.alloc HB.out.size _).alloc (by have:=HB.out.size; simp; omega) _)) (HY'.out.keep ((HB.out.alloc HB.out.size _).alloc (by have:=HB.out.size; simp; omega) _))).mono ?_
        by_cases hpp : p = p'
        · rw [decide_eq_true (show (p.1,p.2) = (p'.1,p'.2) from hpp)]
          rintro e w2 ⟨rfl,b2⟩;have HA : Hid (ps.take (j + 1) = qs.take (j + 1)):=take_eq_step hall.out HP.out HP'.out hpp;have HB2:=zqh (HB.out.trans ((below_two b2).mono HB.out.size));clear b2 d1 d2 d3 d4 hpp;(go_wp2_with fail)
          go_roundw
          case rel => exact ⟨j + 1,by omega,by go_num,HA.out,HB2.out⟩
          case measure => simp [intOf]; omega
        · rw [decide_eq_false (show ¬ (p.1,p.2) = (p'.1,p'.2) from hpp)]
          rintro e w2 ⟨rfl,b2⟩;have HA : Hid (R = false):=by
            rw [← HR.out,decide_eq_false_iff_not];intro e;have x1 : ps[j]? = some p:=HP.out;have x2 : qs[j]? = some p':=HP'.out;rw [e,x2] at x1;injection x1 with x1
            exact hpp x1.symm
          have HB2:=zqh (HB.out.trans ((below_two b2).mono HB.out.size));clear b2 d1 d2 d3 d4 hpp;(go_wp2_with fail);go_ret;exact ⟨ret_bool HA.out.symm,HB2.out⟩
      · have hjk : j = K:=by omega
        subst hjk;have HA : Hid (R = true):=by
          have x1:=(pats_len h1.out).1;have x2:=(pats_len h2.out).1;have x3:=hall.out;rw [List.take_of_length_le (by omega),List.take_of_length_le (by omega)] at x3;rw [← HR.out,decide_eq_true x3];rfl
        have HB:=zqh hb;clear hb;go_wp2;go_ret;exact ⟨ret_bool HA.out.symm,HB.out⟩
  · have HA : Hid (R = false):=by
      rw [← HR.out,decide_eq_false_iff_not];intro e;have x1:=(pats_len h1.out).1;have x2:=(pats_len h2.out).1;rw [e] at x1;omega
    have hK' : ((K : Int) != (K2 : Int)) = true:=by simp; omega
    clear hK;go_enter Tryz.func69,Tryz.ntmps69;go_wp2;go_ret;exact ⟨ret_bool HA.out.symm,Below.refl _ _⟩


def digN (n : Nat) : Nat:=if n ≤ 9 then 48 + n else if n ≤ 35 then 55 + n else 63
def baseB (b : Int) : Bool:=decide (2 ≤ b ∧ b ≤ 36)
theorem baseB_iff (b : Int) : baseB b = true ↔ (2 ≤ b ∧ b ≤ 36):=by unfold baseB; simp
def usF (b u : Nat) : List UInt8 :=
  if h : 2 ≤ b ∧ b ≤ u then usF b (u / b) ++ [UInt8.ofNat (digN (u % b))] else [UInt8.ofNat (digN u)]
termination_by u
decreasing_by exact Nat.div_lt_self (by omega) (by omega)
theorem usF_big {b u : Nat} (h2 : 2 ≤ b) (h : b ≤ u) : usF b u = usF b (u / b) ++ [UInt8.ofNat (digN (u % b))]:=by
  rw [usF,dif_pos ⟨h2,h⟩]
theorem usF_low {b u : Nat} (h : u < b) : usF b u = [UInt8.ofNat (digN u)]:=by
  rw [usF,dif_neg (by omega)]
def ushowF (n b : Int) : List UInt8:=if baseB b = true then usF b.toNat (un n) else []
def showF (n b : Int) : List UInt8:=if baseB b = true then (if 0 ≤ n then usF b.toNat n.toNat else 45 :: usF b.toNat (-n).toNat) else []
def showC (b : Int) : Int:=if baseB b = true then 0 else -24


theorem w64_id {n : Int} (h0 : -9223372036854775808 ≤ n) (h1 : n ≤ 9223372036854775807) : wrap64 n = n:=IntWalk.wrap64_in n ⟨h0,h1⟩
theorem us_ne {b u : Nat} : usF b u ≠ []:=by
  rw [usF]
  split <;> simp


theorem strB_size (l : List UInt8) : (strB l).size = l.length:=rfl
theorem one_newN (w1 : World) (b : Array Value) (t : TypeId) : (w1.alloc (.cells b t)).heap[w1.heap.size]? = some (.cells b t (0,0)):=by
  show (w1.heap.push _)[w1.heap.size]? = _;exact Array.getElem?_push_size


def R2 (w : World) (A P A' P' : Option Addr) (L c K d L' c' K' d' : Nat) (w' : World) : Prop:=Below w.heap.size w w' ∧ Box w' w.heap.size (.slice A L c) (.slice P K d) 29 ∧ Box w' (w.heap.size + 1) (.slice A' L' c') (.slice P' K' d') 29
theorem R2.bel {w w1 : World} {A P A' P' : Option Addr} {L c K d L' c' K' d' : Nat} (h : R2 w A P A' P' L c K d L' c' K' d' w1) : Below w.heap.size w w1:=h.1
theorem R2.one {w w1 : World} {A P A' P' : Option Addr} {L c K d L' c' K' d' : Nat} (h : R2 w A P A' P' L c K d L' c' K' d' w1) : Box w1 w.heap.size (.slice A L c) (.slice P K d) 29:=h.2.1
theorem R2.two {w w1 : World} {A P A' P' : Option Addr} {L c K d L' c' K' d' : Nat} (h : R2 w A P A' P' L c K d L' c' K' d' w1) : Box w1 (w.heap.size + 1) (.slice A' L' c') (.slice P' K' d') 29:=h.2.2
theorem R2.keep {w w1 w2 : World} {A P A' P' : Option Addr} {L c K d L' c' K' d' : Nat} (h : R2 w A P A' P' L c K d L' c' K' d' w1) (b : Below w1.heap.size w1 w2) : R2 w A P A' P' L c K d L' c' K' d' w2:=⟨below_then h.1 b,h.2.1.keep b,h.2.2.keep b⟩
theorem r2_new (w : World) (A P A' P' : Option Addr) (L c K d L' c' K' d' : Nat) : R2 w A P A' P' L c K d L' c' K' d' ((w.alloc (.cells #[.slice A L c,.slice P K d] 29)).alloc (.cells #[.slice A' L' c',.slice P' K' d'] 29)) :=
  ⟨((Below.refl _ _).alloc (Nat.le_refl _) _).alloc (by simp) _,(box_two w _ _ _ _ _ _).1,(box_two w _ _ _ _ _ _).2⟩
theorem pm_eq (m o : PM) : decide (m = o) = (decide (m.1 = o.1) && decide (m.2 = o.2)):=by
  obtain ⟨a,b⟩:=m;obtain ⟨c,d⟩:=o;rw [← Bool.decide_and];simp
theorem same_at (A P A' P' : Option Addr) (L c K d L' c' K' d' : Nat) (m o : PM) (w : World) (HM : Hid (IsMem w (.agg #[.slice A L c,.slice P K d]) m)) (HO : Hid (IsMem w (.agg #[.slice A' L' c',.slice P' K' d']) o)) :
    Calls Tryz.prog 47 #[.agg #[.slice A L c,.slice P K d],.agg #[.slice A' L' c',.slice P' K' d']] w fun e w' => e = .returned (.bool (decide (m = o))) ∧ Below w.heap.size w w':=by
  have R0:=zqh (r2_new w A P A' P' L c K d L' c' K' d');cases h1 : decide (m.1 = o.1) with
  | false =>
    have HD : Hid (decide (m = o) = false):=by rw [pm_eq,h1]; rfl
    go_enter Tryz.func47,Tryz.ntmps47;(go_wp2_with fail);refine (equal_any _ _ _ _ _ _ m.1 o.1 _ (HM.out.keep R0.out.bel).byt (HO.out.keep R0.out.bel).byt).mono ?_;rw [h1];rintro e w1 ⟨rfl,rfl⟩;(go_wp2_with fail);go_ret;exact ⟨ret_bool HD.out.symm,R0.out.bel⟩
  | true =>
    obtain ⟨R,hR⟩ : ∃ R,decide (m.2 = o.2) = R:=⟨_,rfl⟩;have HD : Hid (decide (m = o) = R):=by rw [pm_eq,h1,hR]; rfl
    have HR:=zqh hR;clear hR;go_enter Tryz.func47,Tryz.ntmps47;(go_wp2_with fail);refine (equal_any _ _ _ _ _ _ m.1 o.1 _ (HM.out.keep R0.out.bel).byt (HO.out.keep R0.out.bel).byt).mono ?_;rw [h1];rintro e w1 ⟨rfl,rfl⟩;(go_wp2_with fail);refine (equalFunc_any _ _ _ _ _ _ m.2 o.2 _ (HM.out.keep R0.out.bel).pats (HO.out.keep R0.out.bel).pats).mono ?_;rw [HR.out];rintro e w2 ⟨rfl,b2⟩;have R1:=zqh (R0.out.keep b2);clear b2;(go_wp2_with fail);go_ret;exact ⟨ret_bool HD.out.symm,R1.out.bel⟩


theorem R2.drewN {w w1 : World} {A P A' P' : Option Addr} {L c K d L' c' K' d' : Nat} (h : R2 w A P A' P' L c K d L' c' K' d' w1) (i : Nat) : R2 w A P A' P' L c K d L' c' K' d' (w1.drewN i):=⟨h.1.trans (Go.Joins.below_draws _ _ _),h.2.1,h.2.2⟩
theorem str_neq {a b : ByteArray} (h : a ≠ b) : (a.toList != b.toList) = true:=by rw [bne,str_ne h]; rfl
theorem Byt.drewN {w : World} {v : Value} {l : List UInt8} (h : Byt w v l) (i : Nat) : Byt (w.drewN i) v l:=h
end Go.Proofs.YtcmldhjicjmmgaaGreatDoor
