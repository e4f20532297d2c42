/- Part 45. -/
import Derived.Test.YtlgnijhemfkflaaGreatDoorPqBR
set_option linter.unusedVariables false
set_option linter.unusedSimpArgs false
set_option maxRecDepth 100000
set_option maxHeartbeats 4000000

namespace Go.Proofs.YtlgnijhemfkflaaGreatDoor
open Go.RowKit


def Tbl (w : World) (G st n m o : Nat) (f : Nat → List Nat) : Prop:=G < w.heap.size ∧ ∀ q,q < n → ∃ g,w.cell? ⟨G,q * st + o,none⟩ = some (.slice (some ⟨g,0,none⟩) m m) ∧ Sts w (.slice (some ⟨g,0,none⟩) m m) ((f q).map nmP)
theorem Tbl.keep {w w' : World} {G st n m o : Nat} {f : Nat → List Nat} (h : Tbl w G st n m o f) (b : Below w.heap.size w w') : Tbl w' G st n m o f :=
  ⟨Nat.lt_of_lt_of_le h.1 b.size,fun q hq => by
    obtain ⟨g,h1,h2⟩:=h.2 q hq
    exact ⟨g,(b.cell (p:=⟨G,q * st + o,none⟩) h.1).trans h1,h2.keep b⟩⟩
def rowQ (q : Nat) : List Nat:=[[25,25],[27,28],[23,24],[26,24],[59,59],[61,61],[62,63],[81,24],[32,33],[93,24]].getD q []
def leftQ (q : Nat) : List Nat:=[[30],[29],[32],[66],[67],[40],[64]].getD q []
def riteQ (q : Nat) : List Nat:=[[25,26],[25,24],[26,26],[101,51],[101,53],[59,39],[23,39]].getD q []
theorem run_sn {k K K' : VmK} {L M : VmL} {R : Bool} (ns : List Nat) (n : Nat) (hln : ns.length = n) (hns : ∀ n ∈ ns,n < 130) (hl : n ≤ 100) (A : Option Addr) (c : Nat) (w : World) (HT : Tab w) (h : IsVm w k L) (s : Sc k K) (ok : OkRun ns K L) (hr : runE ns K L = (R,K',M)) (hs : Sts w (.slice A n c) (ns.map nmP)) :
    Calls Tryz.prog 20 #[vmV k,.slice A n c] w fun e w' => ∃ j,e = .returned (.tuple #[vmV j,.bool R]) ∧ IsVm w' j M ∧ Sc j K' ∧ MLoc w.heap.size j k ∧ Below w.heap.size w w':=by
  subst hln;exact run_st ns hns hl A c w HT h s ok hr hs
theorem rowQ_run {a b c : Int} (ha : cellR a) (hb : cellR b) (hc : cellR c) (q : Nat) (hq : q < 10) : (rowQ q).length = 2 ∧ (∀ n ∈ rowQ q,n < 130) ∧ runE (rowQ q) stS (stL [a,b,c]) = (true,stS,stL [a,b,c]) ∧ OkRun (rowQ q) stS (stL [a,b,c]):=by
  have h : q = 0 ∨ q = 1 ∨ q = 2 ∨ q = 3 ∨ q = 4 ∨ q = 5 ∨ q = 6 ∨ q = 7 ∨ q = 8 ∨ q = 9:=by omega
  rcases h with rfl | rfl | rfl | rfl | rfl | rfl | rfl | rfl | rfl | rfl
  · exact ⟨rfl,by decide,(row_0 ha hb hc).1,(row_0 ha hb hc).2⟩
  · exact ⟨rfl,by decide,(row_1 ha hb hc).1,(row_1 ha hb hc).2⟩
  · exact ⟨rfl,by decide,(row_2 ha hb hc).1,(row_2 ha hb hc).2⟩
  · exact ⟨rfl,by decide,(row_3 ha hb hc).1,(row_3 ha hb hc).2⟩
  · exact ⟨rfl,by decide,(row_4 ha hb hc).1,(row_4 ha hb hc).2⟩
  · exact ⟨rfl,by decide,(row_5 ha hb hc).1,(row_5 ha hb hc).2⟩
  · exact ⟨rfl,by decide,(row_6 ha hb hc).1,(row_6 ha hb hc).2⟩
  · exact ⟨rfl,by decide,(row_7 ha hb hc).1,(row_7 ha hb hc).2⟩
  · exact ⟨rfl,by decide,(row_8 ha hb hc).1,(row_8 ha hb hc).2⟩
  · exact ⟨rfl,by decide,(row_9 ha hb hc).1,(row_9 ha hb hc).2⟩
theorem same_run {a b c : Int} (ha : cellR a) (hb : cellR b) (hc : cellR c) (q : Nat) (hq : q < 7) : ∃ l : List Int,l.length ≤ 9 ∧ (leftQ q).length = 1 ∧ (∀ n ∈ leftQ q,n < 130) ∧ runE (leftQ q) stS (stL [a,b,c]) = (true,stS,stL l) ∧ OkRun (leftQ q) stS (stL [a,b,c]) ∧ (riteQ q).length = 2 ∧ (∀ n ∈ riteQ q,n < 130) ∧ runE (riteQ q) stS (stL [a,b,c]) = (true,stS,stL l) ∧ OkRun (riteQ q) stS (stL [a,b,c]):=by
  have h : q = 0 ∨ q = 1 ∨ q = 2 ∨ q = 3 ∨ q = 4 ∨ q = 5 ∨ q = 6:=by omega
  rcases h with rfl | rfl | rfl | rfl | rfl | rfl | rfl
  · exact ⟨_,by show 4 ≤ 9; decide,rfl,by decide,(left_0 ha hb hc).1,(left_0 ha hb hc).2,rfl,by decide,(rite_0 ha hb hc).1,(rite_0 ha hb hc).2⟩
  · exact ⟨_,by show 2 ≤ 9; decide,rfl,by decide,(left_1 ha hb hc).1,(left_1 ha hb hc).2,rfl,by decide,(rite_1 ha hb hc).1,(rite_1 ha hb hc).2⟩
  · exact ⟨_,by show 5 ≤ 9; decide,rfl,by decide,(left_2 ha hb hc).1,(left_2 ha hb hc).2,rfl,by decide,(rite_2 ha hb hc).1,(rite_2 ha hb hc).2⟩
  · exact ⟨_,by show 3 ≤ 9; decide,rfl,by decide,(left_3 ha hb hc).1,(left_3 ha hb hc).2,rfl,by decide,(rite_3 ha hb hc).1,(rite_3 ha hb hc).2⟩
  · exact ⟨_,by show 3 ≤ 9; decide,rfl,by decide,(left_4 ha hb hc).1,(left_4 ha hb hc).2,rfl,by decide,(rite_4 ha hb hc).1,(rite_4 ha hb hc).2⟩
  · exact ⟨_,by show 2 ≤ 9; decide,rfl,by decide,(left_5 ha hb hc).1,(left_5 ha hb hc).2,rfl,by decide,(rite_5 ha hb hc).1,(rite_5 ha hb hc).2⟩
  · exact ⟨_,by show 3 ≤ 9; decide,rfl,by decide,(left_6 ha hb hc).1,(left_6 ha hb hc).2,rfl,by decide,(rite_6 ha hb hc).1,(rite_6 ha hb hc).2⟩
structure DoneR (wS wx : World) (b : Nat) (j2 : VmK) (M : VmL) : Prop where
  lo : wS.heap.size ≤ b
  box : VBox wx b j2
  vm : IsVm wx j2 M
  bel : Below wS.heap.size wS wx
theorem pairs_any (a b c t : Int) (w : World) (HT : Tab w) (h0 : 0 ≤ t) (h1 : t ≤ 255) (ha : cellR a) (hb : cellR b) (hc : cellR c) : Calls Tryz.prog 11 #[.agg #[.int .i64 a,.int .i64 b,.int .i64 c,.int .u8 t]] w fun e w' => e = .returned (.bool true) ∧ Below w.heap.size w w':=by
  have T0:=zqh HT;have B0:=zqh (Below.refl w.heap.size w);clear HT;have HA:=zqh (And.intro ha (And.intro hb hc));clear ha hb hc;go_enter Tryz.func11,Tryz.ntmps11;go_upto_region 5 with fail
  generalize hwa : World.alloc _ _ = w1;have bb : Below w.heap.size w w1:=by rw [← hwa]; exact al_one _ _
  clear hwa;have T1:=zqh (T0.out.keep bb);have B1:=zqh (below_then B0.out bb);clear bb T0 B0;(go_wp2_with fail);refine (shown_any _ T1.out).mono ?_;rintro e w2 ⟨rfl,bb⟩;have T2:=zqh (T1.out.keep bb);have B2:=zqh (below_then B1.out bb);clear bb T1 B1;go_upto_region 7 with fail
  generalize hwa : World.alloc w2 _ = w3;have kb : Below w2.heap.size w2 w3:=by rw [← hwa]; exact al_one _ _
  have SZ3 : Hid (w3.heap.size = w2.heap.size + 1):=by show _ = _; rw [← hwa]; simp
  have hx : Sts w3 (.slice (some ⟨w2.heap.size,0,none⟩) 2 2) ([25,25].map nmP):=by
    have h9:=sts_lit w2 ([25,25].map nmP) (by decide);rw [show (sts ([25,25].map nmP)).toArray = (#[.string ⟨#[83,87,65,80]⟩,.string ⟨#[83,87,65,80]⟩] : Array Value) from by kernel_rfl,hwa] at h9;exact h9
  clear hwa;have T3:=zqh (T2.out.keep kb);have B3:=zqh (below_then B2.out kb);have S0x3:=zqh hx;clear kb T2 B2;clear hx;generalize hwa : World.alloc w3 _ = w4;have kb : Below w3.heap.size w3 w4:=by rw [← hwa]; exact al_one _ _
  have SZ4 : Hid (w4.heap.size = w2.heap.size + 1 + 1):=by show _ = _; rw [← hwa]; simp; have:=SZ3.out; omega
  have hx : Sts w4 (.slice (some ⟨w2.heap.size + 1,0,none⟩) 2 2) ([27,28].map nmP):=by
    have h9:=sts_lit w3 ([27,28].map nmP) (by decide);rw [show (sts ([27,28].map nmP)).toArray = (#[.string ⟨#[82,79,84]⟩,.string ⟨#[45,82,79,84]⟩] : Array Value) from by kernel_rfl,hwa] at h9;rw [SZ3.out] at h9;exact h9
  clear hwa;have T4:=zqh (T3.out.keep kb);have S0x4:=zqh (S0x3.out.keep kb);have B4:=zqh (below_then B3.out kb);have S1x4:=zqh hx;clear kb T3 S0x3 B3;clear hx;generalize hwa : World.alloc w4 _ = w5;have kb : Below w4.heap.size w4 w5:=by rw [← hwa]; exact al_one _ _
  have SZ5 : Hid (w5.heap.size = w2.heap.size + 1 + 1 + 1):=by show _ = _; rw [← hwa]; simp; have:=SZ4.out; omega
  have hx : Sts w5 (.slice (some ⟨w2.heap.size + 1 + 1,0,none⟩) 2 2) ([23,24].map nmP):=by
    have h9:=sts_lit w4 ([23,24].map nmP) (by decide);rw [show (sts ([23,24].map nmP)).toArray = (#[.string ⟨#[68,85,80]⟩,.string ⟨#[68,82,79,80]⟩] : Array Value) from by kernel_rfl,hwa] at h9;rw [SZ4.out] at h9;exact h9
  clear hwa;have T5:=zqh (T4.out.keep kb);have S0x5:=zqh (S0x4.out.keep kb);have S1x5:=zqh (S1x4.out.keep kb);have B5:=zqh (below_then B4.out kb);have S2x5:=zqh hx;clear kb T4 S0x4 S1x4 B4;clear hx;generalize hwa : World.alloc w5 _ = w6;have kb : Below w5.heap.size w5 w6:=by rw [← hwa]; exact al_one _ _
  have SZ6 : Hid (w6.heap.size = w2.heap.size + 1 + 1 + 1 + 1):=by show _ = _; rw [← hwa]; simp; have:=SZ5.out; omega
  have hx : Sts w6 (.slice (some ⟨w2.heap.size + 1 + 1 + 1,0,none⟩) 2 2) ([26,24].map nmP):=by
    have h9:=sts_lit w5 ([26,24].map nmP) (by decide);rw [show (sts ([26,24].map nmP)).toArray = (#[.string ⟨#[79,86,69,82]⟩,.string ⟨#[68,82,79,80]⟩] : Array Value) from by kernel_rfl,hwa] at h9;rw [SZ5.out] at h9;exact h9
  clear hwa;have T6:=zqh (T5.out.keep kb);have S0x6:=zqh (S0x5.out.keep kb);have S1x6:=zqh (S1x5.out.keep kb);have S2x6:=zqh (S2x5.out.keep kb);have B6:=zqh (below_then B5.out kb);have S3x6:=zqh hx;clear kb T5 S0x5 S1x5 S2x5 B5;clear hx;generalize hwa : World.alloc w6 _ = w7;have kb : Below w6.heap.size w6 w7:=by rw [← hwa]; exact al_one _ _
  have SZ7 : Hid (w7.heap.size = w2.heap.size + 1 + 1 + 1 + 1 + 1):=by show _ = _; rw [← hwa]; simp; have:=SZ6.out; omega
  have hx : Sts w7 (.slice (some ⟨w2.heap.size + 1 + 1 + 1 + 1,0,none⟩) 2 2) ([59,59].map nmP):=by
    have h9:=sts_lit w6 ([59,59].map nmP) (by decide);rw [show (sts ([59,59].map nmP)).toArray = (#[.string ⟨#[78,69,71,65,84,69]⟩,.string ⟨#[78,69,71,65,84,69]⟩] : Array Value) from by kernel_rfl,hwa] at h9;rw [SZ6.out] at h9;exact h9
  clear hwa;have T7:=zqh (T6.out.keep kb);have S0x7:=zqh (S0x6.out.keep kb);have S1x7:=zqh (S1x6.out.keep kb);have S2x7:=zqh (S2x6.out.keep kb);have S3x7:=zqh (S3x6.out.keep kb);have B7:=zqh (below_then B6.out kb);have S4x7:=zqh hx;clear kb T6 S0x6 S1x6 S2x6 S3x6 B6;clear hx;generalize hwa : World.alloc w7 _ = w8;have kb : Below w7.heap.size w7 w8:=by rw [← hwa]; exact al_one _ _
  have SZ8 : Hid (w8.heap.size = w2.heap.size + 1 + 1 + 1 + 1 + 1 + 1):=by show _ = _; rw [← hwa]; simp; have:=SZ7.out; omega
  have hx : Sts w8 (.slice (some ⟨w2.heap.size + 1 + 1 + 1 + 1 + 1,0,none⟩) 2 2) ([61,61].map nmP):=by
    have h9:=sts_lit w7 ([61,61].map nmP) (by decide);rw [show (sts ([61,61].map nmP)).toArray = (#[.string ⟨#[73,78,86,69,82,84]⟩,.string ⟨#[73,78,86,69,82,84]⟩] : Array Value) from by kernel_rfl,hwa] at h9;rw [SZ7.out] at h9;exact h9
  clear hwa;have T8:=zqh (T7.out.keep kb);have S0x8:=zqh (S0x7.out.keep kb);have S1x8:=zqh (S1x7.out.keep kb);have S2x8:=zqh (S2x7.out.keep kb);have S3x8:=zqh (S3x7.out.keep kb);have S4x8:=zqh (S4x7.out.keep kb);have B8:=zqh (below_then B7.out kb);have S5x8:=zqh hx;clear kb T7 S0x7 S1x7 S2x7 S3x7 S4x7 B7;clear hx;generalize hwa : World.alloc w8 _ = w9;have kb : Below w8.heap.size w8 w9:=by rw [← hwa]; exact al_one _ _
  have SZ9 : Hid (w9.heap.size = w2.heap.size + 1 + 1 + 1 + 1 + 1 + 1 + 1):=by show _ = _; rw [← hwa]; simp; have:=SZ8.out; omega
  have hx : Sts w9 (.slice (some ⟨w2.heap.size + 1 + 1 + 1 + 1 + 1 + 1,0,none⟩) 2 2) ([62,63].map nmP):=by
    have h9:=sts_lit w8 ([62,63].map nmP) (by decide);rw [show (sts ([62,63].map nmP)).toArray = (#[.string ⟨#[49,43]⟩,.string ⟨#[49,45]⟩] : Array Value) from by kernel_rfl,hwa] at h9;rw [SZ8.out] at h9;exact h9
  clear hwa;have T9:=zqh (T8.out.keep kb);have S0x9:=zqh (S0x8.out.keep kb);have S1x9:=zqh (S1x8.out.keep kb);have S2x9:=zqh (S2x8.out.keep kb);have S3x9:=zqh (S3x8.out.keep kb);have S4x9:=zqh (S4x8.out.keep kb);have S5x9:=zqh (S5x8.out.keep kb);have B9:=zqh (below_then B8.out kb);have S6x9:=zqh hx;clear kb T8 S0x8 S1x8 S2x8 S3x8 S4x8 S5x8 B8;clear hx;generalize hwa : World.alloc w9 _ = w10;have kb : Below w9.heap.size w9 w10:=by rw [← hwa]; exact al_one _ _
  have SZ10 : Hid (w10.heap.size = w2.heap.size + 1 + 1 + 1 + 1 + 1 + 1 + 1 + 1):=by show _ = _; rw [← hwa]; simp; have:=SZ9.out; omega
  have hx : Sts w10 (.slice (some ⟨w2.heap.size + 1 + 1 + 1 + 1 + 1 + 1 + 1,0,none⟩) 2 2) ([81,24].map nmP):=by
    have h9:=sts_lit w9 ([81,24].map nmP) (by decide);rw [show (sts ([81,24].map nmP)).toArray = (#[.string ⟨#[83,62,68]⟩,.string ⟨#[68,82,79,80]⟩] : Array Value) from by kernel_rfl,hwa] at h9;rw [SZ9.out] at h9;exact h9
  clear hwa;have T10:=zqh (T9.out.keep kb);have S0x10:=zqh (S0x9.out.keep kb);have S1x10:=zqh (S1x9.out.keep kb);have S2x10:=zqh (S2x9.out.keep kb);have S3x10:=zqh (S3x9.out.keep kb);have S4x10:=zqh (S4x9.out.keep kb);have S5x10:=zqh (S5x9.out.keep kb);have S6x10:=zqh (S6x9.out.keep kb);have B10:=zqh (below_then B9.out kb);have S7x10:=zqh hx;clear kb T9 S0x9 S1x9 S2x9 S3x9 S4x9 S5x9 S6x9 B9;clear hx;generalize hwa : World.alloc w10 _ = w11;have kb : Below w10.heap.size w10 w11:=by rw [← hwa]; exact al_one _ _
  have SZ11 : Hid (w11.heap.size = w2.heap.size + 1 + 1 + 1 + 1 + 1 + 1 + 1 + 1 + 1):=by show _ = _; rw [← hwa]; simp; have:=SZ10.out; omega
  have hx : Sts w11 (.slice (some ⟨w2.heap.size + 1 + 1 + 1 + 1 + 1 + 1 + 1 + 1,0,none⟩) 2 2) ([32,33].map nmP):=by
    have h9:=sts_lit w10 ([32,33].map nmP) (by decide);rw [show (sts ([32,33].map nmP)).toArray = (#[.string ⟨#[50,68,85,80]⟩,.string ⟨#[50,68,82,79,80]⟩] : Array Value) from by kernel_rfl,hwa] at h9;rw [SZ10.out] at h9;exact h9
  clear hwa;have T11:=zqh (T10.out.keep kb);have S0x11:=zqh (S0x10.out.keep kb);have S1x11:=zqh (S1x10.out.keep kb);have S2x11:=zqh (S2x10.out.keep kb);have S3x11:=zqh (S3x10.out.keep kb);have S4x11:=zqh (S4x10.out.keep kb);have S5x11:=zqh (S5x10.out.keep kb);have S6x11:=zqh (S6x10.out.keep kb);have S7x11:=zqh (S7x10.out.keep kb);have B11:=zqh (below_then B10.out kb);have S8x11:=zqh hx;clear kb T10 S0x10 S1x10 S2x10 S3x10 S4x10 S5x10 S6x10 S7x10 B10;clear hx;generalize hwa : World.alloc w11 _ = w12;have kb : Below w11.heap.size w11 w12:=by rw [← hwa]; exact al_one _ _
  have SZ12 : Hid (w12.heap.size = w2.heap.size + 1 + 1 + 1 + 1 + 1 + 1 + 1 + 1 + 1 + 1):=by show _ = _; rw [← hwa]; simp; have:=SZ11.out; omega
  have hx : Sts w12 (.slice (some ⟨w2.heap.size + 1 + 1 + 1 + 1 + 1 + 1 + 1 + 1 + 1,0,none⟩) 2 2) ([93,24].map nmP):=by
    have h9:=sts_lit w11 ([93,24].map nmP) (by decide);rw [show (sts ([93,24].map nmP)).toArray = (#[.string ⟨#[72,69,82,69]⟩,.string ⟨#[68,82,79,80]⟩] : Array Value) from by kernel_rfl,hwa] at h9;rw [SZ11.out] at h9;exact h9
  clear hwa;have T12:=zqh (T11.out.keep kb);have S0x12:=zqh (S0x11.out.keep kb);have S1x12:=zqh (S1x11.out.keep kb);have S2x12:=zqh (S2x11.out.keep kb);have S3x12:=zqh (S3x11.out.keep kb);have S4x12:=zqh (S4x11.out.keep kb);have S5x12:=zqh (S5x11.out.keep kb);have S6x12:=zqh (S6x11.out.keep kb);have S7x12:=zqh (S7x11.out.keep kb);have S8x12:=zqh (S8x11.out.keep kb);have B12:=zqh (below_then B11.out kb);have S9x12:=zqh hx;clear kb T11 S0x11 S1x11 S2x11 S3x11 S4x11 S5x11 S6x11 S7x11 S8x11 B11;clear hx;generalize hwa : World.alloc w12 _ = w13;have kb : Below w12.heap.size w12 w13:=by rw [← hwa]; exact al_one _ _
  have c0 : w13.cell? ⟨w2.heap.size + 1 + 1 + 1 + 1 + 1 + 1 + 1 + 1 + 1 + 1,0,none⟩ = some (.slice (some ⟨w2.heap.size,0,none⟩) 2 2):=by rw [← hwa,← SZ12.out]; simp
  have c1 : w13.cell? ⟨w2.heap.size + 1 + 1 + 1 + 1 + 1 + 1 + 1 + 1 + 1 + 1,1,none⟩ = some (.slice (some ⟨w2.heap.size + 1,0,none⟩) 2 2):=by rw [← hwa,← SZ12.out]; simp
  have c2 : w13.cell? ⟨w2.heap.size + 1 + 1 + 1 + 1 + 1 + 1 + 1 + 1 + 1 + 1,2,none⟩ = some (.slice (some ⟨w2.heap.size + 1 + 1,0,none⟩) 2 2):=by rw [← hwa,← SZ12.out]; simp
  have c3 : w13.cell? ⟨w2.heap.size + 1 + 1 + 1 + 1 + 1 + 1 + 1 + 1 + 1 + 1,3,none⟩ = some (.slice (some ⟨w2.heap.size + 1 + 1 + 1,0,none⟩) 2 2):=by rw [← hwa,← SZ12.out]; simp
  have c4 : w13.cell? ⟨w2.heap.size + 1 + 1 + 1 + 1 + 1 + 1 + 1 + 1 + 1 + 1,4,none⟩ = some (.slice (some ⟨w2.heap.size + 1 + 1 + 1 + 1,0,none⟩) 2 2):=by rw [← hwa,← SZ12.out]; simp
  have c5 : w13.cell? ⟨w2.heap.size + 1 + 1 + 1 + 1 + 1 + 1 + 1 + 1 + 1 + 1,5,none⟩ = some (.slice (some ⟨w2.heap.size + 1 + 1 + 1 + 1 + 1,0,none⟩) 2 2):=by rw [← hwa,← SZ12.out]; simp
  have c6 : w13.cell? ⟨w2.heap.size + 1 + 1 + 1 + 1 + 1 + 1 + 1 + 1 + 1 + 1,6,none⟩ = some (.slice (some ⟨w2.heap.size + 1 + 1 + 1 + 1 + 1 + 1,0,none⟩) 2 2):=by rw [← hwa,← SZ12.out]; simp
  have c7 : w13.cell? ⟨w2.heap.size + 1 + 1 + 1 + 1 + 1 + 1 + 1 + 1 + 1 + 1,7,none⟩ = some (.slice (some ⟨w2.heap.size + 1 + 1 + 1 + 1 + 1 + 1 + 1,0,none⟩) 2 2):=by rw [← hwa,← SZ12.out]; simp
  have c8 : w13.cell? ⟨w2.heap.size + 1 + 1 + 1 + 1 + 1 + 1 + 1 + 1 + 1 + 1,8,none⟩ = some (.slice (some ⟨w2.heap.size + 1 + 1 + 1 + 1 + 1 + 1 + 1 + 1,0,none⟩) 2 2):=by rw [← hwa,← SZ12.out]; simp
  have c9 : w13.cell? ⟨w2.heap.size + 1 + 1 + 1 + 1 + 1 + 1 + 1 + 1 + 1 + 1,9,none⟩ = some (.slice (some ⟨w2.heap.size + 1 + 1 + 1 + 1 + 1 + 1 + 1 + 1 + 1,0,none⟩) 2 2):=by rw [← hwa,← SZ12.out]; simp
  have lt9 : w12.heap.size < w13.heap.size:=by rw [← hwa]; simp
  have TA9 : Tbl w13 (w2.heap.size + 1 + 1 + 1 + 1 + 1 + 1 + 1 + 1 + 1 + 1) 1 10 2 0 rowQ:=⟨by rw [← SZ12.out]; exact lt9,fun q hq => by
    have hq2 : q = 0 ∨ q = 1 ∨ q = 2 ∨ q = 3 ∨ q = 4 ∨ q = 5 ∨ q = 6 ∨ q = 7 ∨ q = 8 ∨ q = 9:=by omega
    rcases hq2 with rfl | rfl | rfl | rfl | rfl | rfl | rfl | rfl | rfl | rfl
    · exact ⟨_,c0,S0x12.out.keep kb⟩
    · exact ⟨_,c1,S1x12.out.keep kb⟩
    · exact ⟨_,c2,S2x12.out.keep kb⟩
    · exact ⟨_,c3,S3x12.out.keep kb⟩
    · exact ⟨_,c4,S4x12.out.keep kb⟩
    · exact ⟨_,c5,S5x12.out.keep kb⟩
    · exact ⟨_,c6,S6x12.out.keep kb⟩
    · exact ⟨_,c7,S7x12.out.keep kb⟩
    · exact ⟨_,c8,S8x12.out.keep kb⟩
    · exact ⟨_,c9,S9x12.out.keep kb⟩⟩
  clear hwa lt9 c0 c1 c2 c3 c4 c5 c6 c7 c8 c9;have T13:=zqh (T12.out.keep kb);have B13:=zqh (below_then B12.out kb);have TA13:=zqh TA9;clear kb T12 B12;clear TA9 S0x12 S1x12 S2x12 S3x12 S4x12 S5x12 S6x12 S7x12 S8x12 S9x12 SZ3 SZ4 SZ5 SZ6 SZ7 SZ8 SZ9 SZ10 SZ11 SZ12;go_upto_region 8 with fail
  generalize hwa : World.alloc w13 _ = w14;have kb : Below w13.heap.size w13 w14:=by rw [← hwa]; exact al_one _ _
  have SZ14 : Hid (w14.heap.size = w13.heap.size + 1):=by show _ = _; rw [← hwa]; simp
  have hx : Sts w14 (.slice (some ⟨w13.heap.size,0,none⟩) 1 1) ([30].map nmP):=by
    have h9:=sts_lit w13 ([30].map nmP) (by decide);rw [show (sts ([30].map nmP)).toArray = (#[.string ⟨#[84,85,67,75]⟩] : Array Value) from by kernel_rfl,hwa] at h9;exact h9
  clear hwa;have T14:=zqh (T13.out.keep kb);have TA14:=zqh (TA13.out.keep kb);have B14:=zqh (below_then B13.out kb);have L0x14:=zqh hx;clear kb T13 TA13 B13;clear hx;generalize hwa : World.alloc w14 _ = w15;have kb : Below w14.heap.size w14 w15:=by rw [← hwa]; exact al_one _ _
  have SZ15 : Hid (w15.heap.size = w13.heap.size + 1 + 1):=by show _ = _; rw [← hwa]; simp; have:=SZ14.out; omega
  have hx : Sts w15 (.slice (some ⟨w13.heap.size + 1,0,none⟩) 2 2) ([25,26].map nmP):=by
    have h9:=sts_lit w14 ([25,26].map nmP) (by decide);rw [show (sts ([25,26].map nmP)).toArray = (#[.string ⟨#[83,87,65,80]⟩,.string ⟨#[79,86,69,82]⟩] : Array Value) from by kernel_rfl,hwa] at h9;rw [SZ14.out] at h9;exact h9
  clear hwa;have T15:=zqh (T14.out.keep kb);have TA15:=zqh (TA14.out.keep kb);have L0x15:=zqh (L0x14.out.keep kb);have B15:=zqh (below_then B14.out kb);have Q0x15:=zqh hx;clear kb T14 TA14 L0x14 B14;clear hx;generalize hwa : World.alloc w15 _ = w16;have kb : Below w15.heap.size w15 w16:=by rw [← hwa]; exact al_one _ _
  have SZ16 : Hid (w16.heap.size = w13.heap.size + 1 + 1 + 1):=by show _ = _; rw [← hwa]; simp; have:=SZ15.out; omega
  have hx : Sts w16 (.slice (some ⟨w13.heap.size + 1 + 1,0,none⟩) 1 1) ([29].map nmP):=by
    have h9:=sts_lit w15 ([29].map nmP) (by decide);rw [show (sts ([29].map nmP)).toArray = (#[.string ⟨#[78,73,80]⟩] : Array Value) from by kernel_rfl,hwa] at h9;rw [SZ15.out] at h9;exact h9
  clear hwa;have T16:=zqh (T15.out.keep kb);have TA16:=zqh (TA15.out.keep kb);have L0x16:=zqh (L0x15.out.keep kb);have Q0x16:=zqh (Q0x15.out.keep kb);have B16:=zqh (below_then B15.out kb);have L1x16:=zqh hx;clear kb T15 TA15 L0x15 Q0x15 B15;clear hx;generalize hwa : World.alloc w16 _ = w17;have kb : Below w16.heap.size w16 w17:=by rw [← hwa]; exact al_one _ _
  have SZ17 : Hid (w17.heap.size = w13.heap.size + 1 + 1 + 1 + 1):=by show _ = _; rw [← hwa]; simp; have:=SZ16.out; omega
  have hx : Sts w17 (.slice (some ⟨w13.heap.size + 1 + 1 + 1,0,none⟩) 2 2) ([25,24].map nmP):=by
    have h9:=sts_lit w16 ([25,24].map nmP) (by decide);rw [show (sts ([25,24].map nmP)).toArray = (#[.string ⟨#[83,87,65,80]⟩,.string ⟨#[68,82,79,80]⟩] : Array Value) from by kernel_rfl,hwa] at h9;rw [SZ16.out] at h9;exact h9
  clear hwa;have T17:=zqh (T16.out.keep kb);have TA17:=zqh (TA16.out.keep kb);have L0x17:=zqh (L0x16.out.keep kb);have Q0x17:=zqh (Q0x16.out.keep kb);have L1x17:=zqh (L1x16.out.keep kb);have B17:=zqh (below_then B16.out kb);have Q1x17:=zqh hx;clear kb T16 TA16 L0x16 Q0x16 L1x16 B16;clear hx;generalize hwa : World.alloc w17 _ = w18;have kb : Below w17.heap.size w17 w18:=by rw [← hwa]; exact al_one _ _
  have SZ18 : Hid (w18.heap.size = w13.heap.size + 1 + 1 + 1 + 1 + 1):=by show _ = _; rw [← hwa]; simp; have:=SZ17.out; omega
  have hx : Sts w18 (.slice (some ⟨w13.heap.size + 1 + 1 + 1 + 1,0,none⟩) 1 1) ([32].map nmP):=by
    have h9:=sts_lit w17 ([32].map nmP) (by decide);rw [show (sts ([32].map nmP)).toArray = (#[.string ⟨#[50,68,85,80]⟩] : Array Value) from by kernel_rfl,hwa] at h9;rw [SZ17.out] at h9;exact h9
  clear hwa;have T18:=zqh (T17.out.keep kb);have TA18:=zqh (TA17.out.keep kb);have L0x18:=zqh (L0x17.out.keep kb);have Q0x18:=zqh (Q0x17.out.keep kb);have L1x18:=zqh (L1x17.out.keep kb);have Q1x18:=zqh (Q1x17.out.keep kb);have B18:=zqh (below_then B17.out kb);have L2x18:=zqh hx;clear kb T17 TA17 L0x17 Q0x17 L1x17 Q1x17 B17;clear hx;generalize hwa : World.alloc w18 _ = w19;have kb : Below w18.heap.size w18 w19:=by rw [← hwa]; exact al_one _ _
  have SZ19 : Hid (w19.heap.size = w13.heap.size + 1 + 1 + 1 + 1 + 1 + 1):=by show _ = _; rw [← hwa]; simp; have:=SZ18.out; omega
  have hx : Sts w19 (.slice (some ⟨w13.heap.size + 1 + 1 + 1 + 1 + 1,0,none⟩) 2 2) ([26,26].map nmP):=by
    have h9:=sts_lit w18 ([26,26].map nmP) (by decide);rw [show (sts ([26,26].map nmP)).toArray = (#[.string ⟨#[79,86,69,82]⟩,.string ⟨#[79,86,69,82]⟩] : Array Value) from by kernel_rfl,hwa] at h9;rw [SZ18.out] at h9;exact h9
  clear hwa;have T19:=zqh (T18.out.keep kb);have TA19:=zqh (TA18.out.keep kb);have L0x19:=zqh (L0x18.out.keep kb);have Q0x19:=zqh (Q0x18.out.keep kb);have L1x19:=zqh (L1x18.out.keep kb);have Q1x19:=zqh (Q1x18.out.keep kb);have L2x19:=zqh (L2x18.out.keep kb);have B19:=zqh (below_then B18.out kb);have Q2x19:=zqh hx;clear kb T18 TA18 L0x18 Q0x18 L1x18 Q1x18 L2x18 B18;clear hx;generalize hwa : World.alloc w19 _ = w20;have kb : Below w19.heap.size w19 w20:=by rw [← hwa]; exact al_one _ _
  have SZ20 : Hid (w20.heap.size = w13.heap.size + 1 + 1 + 1 + 1 + 1 + 1 + 1):=by show _ = _; rw [← hwa]; simp; have:=SZ19.out; omega
  have hx : Sts w20 (.slice (some ⟨w13.heap.size + 1 + 1 + 1 + 1 + 1 + 1,0,none⟩) 1 1) ([66].map nmP):=by
    have h9:=sts_lit w19 ([66].map nmP) (by decide);rw [show (sts ([66].map nmP)).toArray = (#[.string ⟨#[48,61]⟩] : Array Value) from by kernel_rfl,hwa] at h9;rw [SZ19.out] at h9;exact h9
  clear hwa;have T20:=zqh (T19.out.keep kb);have TA20:=zqh (TA19.out.keep kb);have L0x20:=zqh (L0x19.out.keep kb);have Q0x20:=zqh (Q0x19.out.keep kb);have L1x20:=zqh (L1x19.out.keep kb);have Q1x20:=zqh (Q1x19.out.keep kb);have L2x20:=zqh (L2x19.out.keep kb);have Q2x20:=zqh (Q2x19.out.keep kb);have B20:=zqh (below_then B19.out kb);have L3x20:=zqh hx;clear kb T19 TA19 L0x19 Q0x19 L1x19 Q1x19 L2x19 Q2x19 B19;clear hx;generalize hwa : World.alloc w20 _ = w21;have kb : Below w20.heap.size w20 w21:=by rw [← hwa]; exact al_one _ _
  have SZ21 : Hid (w21.heap.size = w13.heap.size + 1 + 1 + 1 + 1 + 1 + 1 + 1 + 1):=by show _ = _; rw [← hwa]; simp; have:=SZ20.out; omega
  have hx : Sts w21 (.slice (some ⟨w13.heap.size + 1 + 1 + 1 + 1 + 1 + 1 + 1,0,none⟩) 2 2) ([101,51].map nmP):=by
    have h9:=sts_lit w20 ([101,51].map nmP) (by decide);rw [show (sts ([101,51].map nmP)).toArray = (#[.string ⟨#[70,65,76,83,69]⟩,.string ⟨#[61]⟩] : Array Value) from by kernel_rfl,hwa] at h9;rw [SZ20.out] at h9;exact h9
  clear hwa;have T21:=zqh (T20.out.keep kb);have TA21:=zqh (TA20.out.keep kb);have L0x21:=zqh (L0x20.out.keep kb);have Q0x21:=zqh (Q0x20.out.keep kb);have L1x21:=zqh (L1x20.out.keep kb);have Q1x21:=zqh (Q1x20.out.keep kb);have L2x21:=zqh (L2x20.out.keep kb);have Q2x21:=zqh (Q2x20.out.keep kb);have L3x21:=zqh (L3x20.out.keep kb);have B21:=zqh (below_then B20.out kb);have Q3x21:=zqh hx;clear kb T20 TA20 L0x20 Q0x20 L1x20 Q1x20 L2x20 Q2x20 L3x20 B20;clear hx;generalize hwa : World.alloc w21 _ = w22;have kb : Below w21.heap.size w21 w22:=by rw [← hwa]; exact al_one _ _
  have SZ22 : Hid (w22.heap.size = w13.heap.size + 1 + 1 + 1 + 1 + 1 + 1 + 1 + 1 + 1):=by show _ = _; rw [← hwa]; simp; have:=SZ21.out; omega
  have hx : Sts w22 (.slice (some ⟨w13.heap.size + 1 + 1 + 1 + 1 + 1 + 1 + 1 + 1,0,none⟩) 1 1) ([67].map nmP):=by
    have h9:=sts_lit w21 ([67].map nmP) (by decide);rw [show (sts ([67].map nmP)).toArray = (#[.string ⟨#[48,60]⟩] : Array Value) from by kernel_rfl,hwa] at h9;rw [SZ21.out] at h9;exact h9
  clear hwa;have T22:=zqh (T21.out.keep kb);have TA22:=zqh (TA21.out.keep kb);have L0x22:=zqh (L0x21.out.keep kb);have Q0x22:=zqh (Q0x21.out.keep kb);have L1x22:=zqh (L1x21.out.keep kb);have Q1x22:=zqh (Q1x21.out.keep kb);have L2x22:=zqh (L2x21.out.keep kb);have Q2x22:=zqh (Q2x21.out.keep kb);have L3x22:=zqh (L3x21.out.keep kb);have Q3x22:=zqh (Q3x21.out.keep kb);have B22:=zqh (below_then B21.out kb);have L4x22:=zqh hx;clear kb T21 TA21 L0x21 Q0x21 L1x21 Q1x21 L2x21 Q2x21 L3x21 Q3x21 B21;clear hx;generalize hwa : World.alloc w22 _ = w23;have kb : Below w22.heap.size w22 w23:=by rw [← hwa]; exact al_one _ _
  have SZ23 : Hid (w23.heap.size = w13.heap.size + 1 + 1 + 1 + 1 + 1 + 1 + 1 + 1 + 1 + 1):=by show _ = _; rw [← hwa]; simp; have:=SZ22.out; omega
  have hx : Sts w23 (.slice (some ⟨w13.heap.size + 1 + 1 + 1 + 1 + 1 + 1 + 1 + 1 + 1,0,none⟩) 2 2) ([101,53].map nmP):=by
    have h9:=sts_lit w22 ([101,53].map nmP) (by decide);rw [show (sts ([101,53].map nmP)).toArray = (#[.string ⟨#[70,65,76,83,69]⟩,.string ⟨#[60]⟩] : Array Value) from by kernel_rfl,hwa] at h9;rw [SZ22.out] at h9;exact h9
  clear hwa;have T23:=zqh (T22.out.keep kb);have TA23:=zqh (TA22.out.keep kb);have L0x23:=zqh (L0x22.out.keep kb);have Q0x23:=zqh (Q0x22.out.keep kb);have L1x23:=zqh (L1x22.out.keep kb);have Q1x23:=zqh (Q1x22.out.keep kb);have L2x23:=zqh (L2x22.out.keep kb);have Q2x23:=zqh (Q2x22.out.keep kb);have L3x23:=zqh (L3x22.out.keep kb);have Q3x23:=zqh (Q3x22.out.keep kb);have L4x23:=zqh (L4x22.out.keep kb);have B23:=zqh (below_then B22.out kb);have Q4x23:=zqh hx;clear kb T22 TA22 L0x22 Q0x22 L1x22 Q1x22 L2x22 Q2x22 L3x22 Q3x22 L4x22 B22;clear hx;generalize hwa : World.alloc w23 _ = w24;have kb : Below w23.heap.size w23 w24:=by rw [← hwa]; exact al_one _ _
  have SZ24 : Hid (w24.heap.size = w13.heap.size + 1 + 1 + 1 + 1 + 1 + 1 + 1 + 1 + 1 + 1 + 1):=by show _ = _; rw [← hwa]; simp; have:=SZ23.out; omega
  have hx : Sts w24 (.slice (some ⟨w13.heap.size + 1 + 1 + 1 + 1 + 1 + 1 + 1 + 1 + 1 + 1,0,none⟩) 1 1) ([40].map nmP):=by
    have h9:=sts_lit w23 ([40].map nmP) (by decide);rw [show (sts ([40].map nmP)).toArray = (#[.string ⟨#[45]⟩] : Array Value) from by kernel_rfl,hwa] at h9;rw [SZ23.out] at h9;exact h9
  clear hwa;have T24:=zqh (T23.out.keep kb);have TA24:=zqh (TA23.out.keep kb);have L0x24:=zqh (L0x23.out.keep kb);have Q0x24:=zqh (Q0x23.out.keep kb);have L1x24:=zqh (L1x23.out.keep kb);have Q1x24:=zqh (Q1x23.out.keep kb);have L2x24:=zqh (L2x23.out.keep kb);have Q2x24:=zqh (Q2x23.out.keep kb);have L3x24:=zqh (L3x23.out.keep kb);have Q3x24:=zqh (Q3x23.out.keep kb);have L4x24:=zqh (L4x23.out.keep kb);have Q4x24:=zqh (Q4x23.out.keep kb);have B24:=zqh (below_then B23.out kb);have L5x24:=zqh hx;clear kb T23 TA23 L0x23 Q0x23 L1x23 Q1x23 L2x23 Q2x23 L3x23 Q3x23 L4x23 Q4x23 B23;clear hx;generalize hwa : World.alloc w24 _ = w25;have kb : Below w24.heap.size w24 w25:=by rw [← hwa]; exact al_one _ _
  have SZ25 : Hid (w25.heap.size = w13.heap.size + 1 + 1 + 1 + 1 + 1 + 1 + 1 + 1 + 1 + 1 + 1 + 1):=by show _ = _; rw [← hwa]; simp; have:=SZ24.out; omega
  have hx : Sts w25 (.slice (some ⟨w13.heap.size + 1 + 1 + 1 + 1 + 1 + 1 + 1 + 1 + 1 + 1 + 1,0,none⟩) 2 2) ([59,39].map nmP):=by
    have h9:=sts_lit w24 ([59,39].map nmP) (by decide);rw [show (sts ([59,39].map nmP)).toArray = (#[.string ⟨#[78,69,71,65,84,69]⟩,.string ⟨#[43]⟩] : Array Value) from by kernel_rfl,hwa] at h9;rw [SZ24.out] at h9;exact h9
  clear hwa;have T25:=zqh (T24.out.keep kb);have TA25:=zqh (TA24.out.keep kb);have L0x25:=zqh (L0x24.out.keep kb);have Q0x25:=zqh (Q0x24.out.keep kb);have L1x25:=zqh (L1x24.out.keep kb);have Q1x25:=zqh (Q1x24.out.keep kb);have L2x25:=zqh (L2x24.out.keep kb);have Q2x25:=zqh (Q2x24.out.keep kb);have L3x25:=zqh (L3x24.out.keep kb);have Q3x25:=zqh (Q3x24.out.keep kb);have L4x25:=zqh (L4x24.out.keep kb);have Q4x25:=zqh (Q4x24.out.keep kb);have L5x25:=zqh (L5x24.out.keep kb);have B25:=zqh (below_then B24.out kb);have Q5x25:=zqh hx;clear kb T24 TA24 L0x24 Q0x24 L1x24 Q1x24 L2x24 Q2x24 L3x24 Q3x24 L4x24 Q4x24 L5x24 B24;clear hx;generalize hwa : World.alloc w25 _ = w26;have kb : Below w25.heap.size w25 w26:=by rw [← hwa]; exact al_one _ _
  have SZ26 : Hid (w26.heap.size = w13.heap.size + 1 + 1 + 1 + 1 + 1 + 1 + 1 + 1 + 1 + 1 + 1 + 1 + 1):=by show _ = _; rw [← hwa]; simp; have:=SZ25.out; omega
  have hx : Sts w26 (.slice (some ⟨w13.heap.size + 1 + 1 + 1 + 1 + 1 + 1 + 1 + 1 + 1 + 1 + 1 + 1,0,none⟩) 1 1) ([64].map nmP):=by
    have h9:=sts_lit w25 ([64].map nmP) (by decide);rw [show (sts ([64].map nmP)).toArray = (#[.string ⟨#[50,42]⟩] : Array Value) from by kernel_rfl,hwa] at h9;rw [SZ25.out] at h9;exact h9
  clear hwa;have T26:=zqh (T25.out.keep kb);have TA26:=zqh (TA25.out.keep kb);have L0x26:=zqh (L0x25.out.keep kb);have Q0x26:=zqh (Q0x25.out.keep kb);have L1x26:=zqh (L1x25.out.keep kb);have Q1x26:=zqh (Q1x25.out.keep kb);have L2x26:=zqh (L2x25.out.keep kb);have Q2x26:=zqh (Q2x25.out.keep kb);have L3x26:=zqh (L3x25.out.keep kb);have Q3x26:=zqh (Q3x25.out.keep kb);have L4x26:=zqh (L4x25.out.keep kb);have Q4x26:=zqh (Q4x25.out.keep kb);have L5x26:=zqh (L5x25.out.keep kb);have Q5x26:=zqh (Q5x25.out.keep kb);have B26:=zqh (below_then B25.out kb);have L6x26:=zqh hx;clear kb T25 TA25 L0x25 Q0x25 L1x25 Q1x25 L2x25 Q2x25 L3x25 Q3x25 L4x25 Q4x25 L5x25 Q5x25 B25;clear hx;generalize hwa : World.alloc w26 _ = w27;have kb : Below w26.heap.size w26 w27:=by rw [← hwa]; exact al_one _ _
  have SZ27 : Hid (w27.heap.size = w13.heap.size + 1 + 1 + 1 + 1 + 1 + 1 + 1 + 1 + 1 + 1 + 1 + 1 + 1 + 1):=by show _ = _; rw [← hwa]; simp; have:=SZ26.out; omega
  have hx : Sts w27 (.slice (some ⟨w13.heap.size + 1 + 1 + 1 + 1 + 1 + 1 + 1 + 1 + 1 + 1 + 1 + 1 + 1,0,none⟩) 2 2) ([23,39].map nmP):=by
    have h9:=sts_lit w26 ([23,39].map nmP) (by decide);rw [show (sts ([23,39].map nmP)).toArray = (#[.string ⟨#[68,85,80]⟩,.string ⟨#[43]⟩] : Array Value) from by kernel_rfl,hwa] at h9;rw [SZ26.out] at h9;exact h9
  clear hwa;have T27:=zqh (T26.out.keep kb);have TA27:=zqh (TA26.out.keep kb);have L0x27:=zqh (L0x26.out.keep kb);have Q0x27:=zqh (Q0x26.out.keep kb);have L1x27:=zqh (L1x26.out.keep kb);have Q1x27:=zqh (Q1x26.out.keep kb);have L2x27:=zqh (L2x26.out.keep kb);have Q2x27:=zqh (Q2x26.out.keep kb);have L3x27:=zqh (L3x26.out.keep kb);have Q3x27:=zqh (Q3x26.out.keep kb);have L4x27:=zqh (L4x26.out.keep kb);have Q4x27:=zqh (Q4x26.out.keep kb);have L5x27:=zqh (L5x26.out.keep kb);have Q5x27:=zqh (Q5x26.out.keep kb);have L6x27:=zqh (L6x26.out.keep kb);have B27:=zqh (below_then B26.out kb);have Q6x27:=zqh hx;clear kb T26 TA26 L0x26 Q0x26 L1x26 Q1x26 L2x26 Q2x26 L3x26 Q3x26 L4x26 Q4x26 L5x26 Q5x26 L6x26 B26;clear hx;generalize hwa : World.alloc w27 _ = w28;have kb : Below w27.heap.size w27 w28:=by rw [← hwa]; exact al_one _ _
  have c0 : w28.cell? ⟨w13.heap.size + 1 + 1 + 1 + 1 + 1 + 1 + 1 + 1 + 1 + 1 + 1 + 1 + 1 + 1,0 * 2 + 0,none⟩ = some (.slice (some ⟨w13.heap.size,0,none⟩) 1 1):=by rw [← hwa,← SZ27.out]; simp
  have d0 : w28.cell? ⟨w13.heap.size + 1 + 1 + 1 + 1 + 1 + 1 + 1 + 1 + 1 + 1 + 1 + 1 + 1 + 1,0 * 2 + 1,none⟩ = some (.slice (some ⟨w13.heap.size + 1,0,none⟩) 2 2):=by rw [← hwa,← SZ27.out]; simp
  have c1 : w28.cell? ⟨w13.heap.size + 1 + 1 + 1 + 1 + 1 + 1 + 1 + 1 + 1 + 1 + 1 + 1 + 1 + 1,1 * 2 + 0,none⟩ = some (.slice (some ⟨w13.heap.size + 1 + 1,0,none⟩) 1 1):=by rw [← hwa,← SZ27.out]; simp
  have d1 : w28.cell? ⟨w13.heap.size + 1 + 1 + 1 + 1 + 1 + 1 + 1 + 1 + 1 + 1 + 1 + 1 + 1 + 1,1 * 2 + 1,none⟩ = some (.slice (some ⟨w13.heap.size + 1 + 1 + 1,0,none⟩) 2 2):=by rw [← hwa,← SZ27.out]; simp
  have c2 : w28.cell? ⟨w13.heap.size + 1 + 1 + 1 + 1 + 1 + 1 + 1 + 1 + 1 + 1 + 1 + 1 + 1 + 1,2 * 2 + 0,none⟩ = some (.slice (some ⟨w13.heap.size + 1 + 1 + 1 + 1,0,none⟩) 1 1):=by rw [← hwa,← SZ27.out]; simp
  have d2 : w28.cell? ⟨w13.heap.size + 1 + 1 + 1 + 1 + 1 + 1 + 1 + 1 + 1 + 1 + 1 + 1 + 1 + 1,2 * 2 + 1,none⟩ = some (.slice (some ⟨w13.heap.size + 1 + 1 + 1 + 1 + 1,0,none⟩) 2 2):=by rw [← hwa,← SZ27.out]; simp
  have c3 : w28.cell? ⟨w13.heap.size + 1 + 1 + 1 + 1 + 1 + 1 + 1 + 1 + 1 + 1 + 1 + 1 + 1 + 1,3 * 2 + 0,none⟩ = some (.slice (some ⟨w13.heap.size + 1 + 1 + 1 + 1 + 1 + 1,0,none⟩) 1 1):=by rw [← hwa,← SZ27.out]; simp
  have d3 : w28.cell? ⟨w13.heap.size + 1 + 1 + 1 + 1 + 1 + 1 + 1 + 1 + 1 + 1 + 1 + 1 + 1 + 1,3 * 2 + 1,none⟩ = some (.slice (some ⟨w13.heap.size + 1 + 1 + 1 + 1 + 1 + 1 + 1,0,none⟩) 2 2):=by rw [← hwa,← SZ27.out]; simp
  have c4 : w28.cell? ⟨w13.heap.size + 1 + 1 + 1 + 1 + 1 + 1 + 1 + 1 + 1 + 1 + 1 + 1 + 1 + 1,4 * 2 + 0,none⟩ = some (.slice (some ⟨w13.heap.size + 1 + 1 + 1 + 1 + 1 + 1 + 1 + 1,0,none⟩) 1 1):=by rw [← hwa,← SZ27.out]; simp
  have d4 : w28.cell? ⟨w13.heap.size + 1 + 1 + 1 + 1 + 1 + 1 + 1 + 1 + 1 + 1 + 1 + 1 + 1 + 1,4 * 2 + 1,none⟩ = some (.slice (some ⟨w13.heap.size + 1 + 1 + 1 + 1 + 1 + 1 + 1 + 1 + 1,0,none⟩) 2 2):=by rw [← hwa,← SZ27.out]; simp
  have c5 : w28.cell? ⟨w13.heap.size + 1 + 1 + 1 + 1 + 1 + 1 + 1 + 1 + 1 + 1 + 1 + 1 + 1 + 1,5 * 2 + 0,none⟩ = some (.slice (some ⟨w13.heap.size + 1 + 1 + 1 + 1 + 1 + 1 + 1 + 1 + 1 + 1,0,none⟩) 1 1):=by rw [← hwa,← SZ27.out]; simp
  have d5 : w28.cell? ⟨w13.heap.size + 1 + 1 + 1 + 1 + 1 + 1 + 1 + 1 + 1 + 1 + 1 + 1 + 1 + 1,5 * 2 + 1,none⟩ = some (.slice (some ⟨w13.heap.size + 1 + 1 + 1 + 1 + 1 + 1 + 1 + 1 + 1 + 1 + 1,0,none⟩) 2 2):=by rw [← hwa,← SZ27.out]; simp
  have c6 : w28.cell? ⟨w13.heap.size + 1 + 1 + 1 + 1 + 1 + 1 + 1 + 1 + 1 + 1 + 1 + 1 + 1 + 1,6 * 2 + 0,none⟩ = some (.slice (some ⟨w13.heap.size + 1 + 1 + 1 + 1 + 1 + 1 + 1 + 1 + 1 + 1 + 1 + 1,0,none⟩) 1 1):=by rw [← hwa,← SZ27.out]; simp
  have d6 : w28.cell? ⟨w13.heap.size + 1 + 1 + 1 + 1 + 1 + 1 + 1 + 1 + 1 + 1 + 1 + 1 + 1 + 1,6 * 2 + 1,none⟩ = some (.slice (some ⟨w13.heap.size + 1 + 1 + 1 + 1 + 1 + 1 + 1 + 1 + 1 + 1 + 1 + 1 + 1,0,none⟩) 2 2):=by rw [← hwa,← SZ27.out]; simp
  have lt9 : w27.heap.size < w28.heap.size:=by rw [← hwa]; simp
  have TL9 : Tbl w28 (w13.heap.size + 1 + 1 + 1 + 1 + 1 + 1 + 1 + 1 + 1 + 1 + 1 + 1 + 1 + 1) 2 7 1 0 leftQ:=⟨by rw [← SZ27.out]; exact lt9,fun q hq => by
    have hq2 : q = 0 ∨ q = 1 ∨ q = 2 ∨ q = 3 ∨ q = 4 ∨ q = 5 ∨ q = 6:=by omega
    rcases hq2 with rfl | rfl | rfl | rfl | rfl | rfl | rfl
    · exact ⟨_,c0,L0x27.out.keep kb⟩
    · exact ⟨_,c1,L1x27.out.keep kb⟩
    · exact ⟨_,c2,L2x27.out.keep kb⟩
    · exact ⟨_,c3,L3x27.out.keep kb⟩
    · exact ⟨_,c4,L4x27.out.keep kb⟩
    · exact ⟨_,c5,L5x27.out.keep kb⟩
    · exact ⟨_,c6,L6x27.out.keep kb⟩⟩
  have TR9 : Tbl w28 (w13.heap.size + 1 + 1 + 1 + 1 + 1 + 1 + 1 + 1 + 1 + 1 + 1 + 1 + 1 + 1) 2 7 2 1 riteQ:=⟨by rw [← SZ27.out]; exact lt9,fun q hq => by
    have hq2 : q = 0 ∨ q = 1 ∨ q = 2 ∨ q = 3 ∨ q = 4 ∨ q = 5 ∨ q = 6:=by omega
    rcases hq2 with rfl | rfl | rfl | rfl | rfl | rfl | rfl
    · exact ⟨_,d0,Q0x27.out.keep kb⟩
    · exact ⟨_,d1,Q1x27.out.keep kb⟩
    · exact ⟨_,d2,Q2x27.out.keep kb⟩
    · exact ⟨_,d3,Q3x27.out.keep kb⟩
    · exact ⟨_,d4,Q4x27.out.keep kb⟩
    · exact ⟨_,d5,Q5x27.out.keep kb⟩
    · exact ⟨_,d6,Q6x27.out.keep kb⟩⟩
  clear hwa lt9 c0 d0 c1 d1 c2 d2 c3 d3 c4 d4 c5 d5 c6 d6;have T28:=zqh (T27.out.keep kb);have TA28:=zqh (TA27.out.keep kb);have B28:=zqh (below_then B27.out kb);have TL28:=zqh TL9;have TR28:=zqh TR9;clear kb T27 TA27 B27;clear TL9 TR9 L0x27 Q0x27 L1x27 Q1x27 L2x27 Q2x27 L3x27 Q3x27 L4x27 Q4x27 L5x27 Q5x27 L6x27 Q6x27 SZ14 SZ15 SZ16 SZ17 SZ18 SZ19 SZ20 SZ21 SZ22 SZ23 SZ24 SZ25 SZ26 SZ27;obtain ⟨j,hj⟩ : ∃ j : Nat,t % 10 = (j : Int):=⟨(t % 10).toNat,by omega⟩;have hj1 : j < 10:=by omega
  have hj2 : (j : Int) < 10:=by omega
  have hj3 : (0 : Int) ≤ (j : Int):=by omega
  have E1 : Hid (IntKind.i64.wrap t = t):=by show _ = _; rw [IntWalk.i64_left]; exact w64_id (by omega) (by omega)
  have E2 : Hid (t.tmod 10 = (j : Int)):=by show _ = _; rw [Int.tmod_eq_emod_of_nonneg h0]; exact hj
  obtain ⟨gN,cj,sj⟩:=TA28.out.2 j hj1;rw [Nat.mul_one,Nat.add_zero] at cj;have CJ:=zqh cj;have HG:=zqh TA28.out.1;have NS:=zqh fun u (bu : Below w28.heap.size w28 u) => sj.keep bu
  obtain ⟨q1,q2,q3,q4⟩:=rowQ_run HA.out.1 HA.out.2.1 HA.out.2.2 j hj1;have HLN:=zqh q1;have HNS:=zqh q2;have HR:=zqh q3;have OKR:=zqh q4;clear cj sj q1 q2 q3 q4
  go_cut [10,11] (fun s10 s11 wx => ∃ b9 j2,s10 = .pointer (some ⟨b9,0,none⟩) ∧ s11 = .bool true ∧ Hid (DoneR w28 wx b9 j2 (stL [a,b,c])))
  case first =>
    refine wp_region_noPanic ?_;refine wp_region_held_drew (S:=fun a9 => Below w28.heap.size w28 a9) (by kernel_rfl) (drew_bel0 _) (fun hHeld => ?_);refine zqt (i:=0) (v:=?v0r11) ?y0r11 ?r0r11
    case y0r11 =>
      intro u hSu;go_simp;(try with_reducible rfl)
    (try simp only [zq,Act.put]);refine zqt (i:=1) (v:=?v1r12) ?y1r12 ?r1r12
    case y1r12 =>
      intro u hSu;go_simp;(try with_reducible rfl)
    (try simp only [zq,Act.put]);refine zqt (i:=2) (v:=?v2r13) ?y2r13 ?r2r13
    case y2r13 =>
      intro u hSu;go_simp;(try with_reducible rfl)
    (try simp only [zq,Act.put]);refine zqt (i:=5) (v:=?v5r14) ?y5r14 ?r5r14
    case y5r14 =>
      intro u hSu;go_simp;(try with_reducible rfl)
    (try simp only [zq,Act.put]);refine zqt (i:=6) (v:=?v6r15) ?y6r15 ?r6r15
    case y6r15 =>
      intro u hSu;go_simp;(try with_reducible rfl)
    (try simp only [zq,Act.put]);refine zqt (i:=7) (v:=?v7r16) ?y7r16 ?r7r16
    case y7r16 =>
      intro u hSu;go_simp;(try with_reducible rfl)
    (try simp only [zq,Act.put]);refine zqt (i:=8) (v:=?v8r17) ?y8r17 ?r8r17
    case y8r17 =>
      intro u hSu;go_simp;(try with_reducible rfl)
    (try simp only [zq,Act.put]);refine zqt (i:=9) (v:=?v9r18) ?y9r18 ?r9r18
    case y9r18 =>
      intro u hSu;go_simp;(try with_reducible rfl)
    (try simp only [zq,Act.put]);refine zqt (i:=10) (v:=?v10r19) ?y10r19 ?r10r19
    case y10r19 =>
      intro u hSu;go_simp;(try with_reducible rfl)
    (try simp only [zq,Act.put]);refine zqt (i:=11) (v:=?v11r110) ?y11r110 ?r11r110
    case y11r110 =>
      intro u hSu;(try dsimp only at hSu);have e1:=E1.out;have e2:=E2.out;go_simp;(try with_reducible rfl)
    (try simp only [zq,Act.put]);refine zqt (i:=12) (v:=?v12r111) ?y12r111 ?r12r111
    case y12r111 =>
      intro u hSu;(try dsimp only at hSu);have q0 : u.cell? ⟨w2.heap.size + 1 + 1 + 1 + 1 + 1 + 1 + 1 + 1 + 1 + 1,j,none⟩ = some (.slice (some ⟨gN,0,none⟩) 2 2):=(hSu.cell (p:=⟨w2.heap.size + 1 + 1 + 1 + 1 + 1 + 1 + 1 + 1 + 1 + 1,j,none⟩) HG.out).trans CJ.out;go_simp;(try with_reducible rfl)
    (try simp only [zq,Act.put]);refine wpAnyH_ready (rs:=[3,17]) (by kernel_rfl) (by simp) ?_;refine AllReadyH.cons (o:=_) rfl (fun K hK => ?_) (AllReadyH.cons (o:=_) rfl (fun K hK => ?_) AllReadyH.nil)
    · skip
      go_simp;(go_wp2_with fail);refine hK.out _ _ (al_th0 hHeld) (fun hHeld2 => ?_);clear hK K;(try simp only [zq,Act.put]);generalize hwa : World.alloc _ _ = uyr112 at hHeld2 ⊢;have b9 : Below w28.heap.size w28 uyr112:=by rw [← hwa]; exact al_one _ _
      obtain ⟨gR,egR⟩ : ∃ z,z = w28.heap.size:=⟨_,rfl⟩;have hR : Row uyr112 (some ⟨gR,0,none⟩) 3 3 [a,b,c]:=by rw [← hwa,egR]; exact row_lit _ [a,b,c] (by show 3 ≤ 65536; decide)
      have hgl : gR < uyr112.heap.size:=by rw [egR,← hwa]; simp
      clear b9 hwa hHeld;have hHeld:=hHeld2;clear hHeld2;refine wpAnyH_ready (rs:=[4,17]) (by kernel_rfl) (by simp) ?_;refine AllReadyH.cons (o:=_) rfl (fun K hK => ?_) (AllReadyH.cons (o:=_) rfl (fun K hK => ?_) AllReadyH.nil)
      · skip
        go_simp;rw [← egR]
        first | refine (stocked_any _ _ _ _ _ hR).mono ?_ | refine (stocked_any _ _ _ _ _ (hR.keep (drew_bel0 _))).mono ?_
        rintro e uyr113 ⟨jS,rfl,hv,hs,hda,b9⟩;have HS:=zqh hs;clear hs hR;clear hda;have hN : Below w28.heap.size w28 uyr113:=by first | exact below_then hHeld b9 | exact below_then (below_then hHeld (drew_bel0 _)) b9
        (go_wp2_with fail);clear hHeld b9;refine hK.out _ _ hN (fun hHeld => ?_);clear hK K hN;(try simp only [zq,Act.put]);refine wpAnyH_ready (rs:=[13,17]) (by kernel_rfl) (by simp) ?_;refine AllReadyH.cons (o:=_) rfl (fun K hK => ?_) (AllReadyH.cons (o:=_) rfl (fun K hK => ?_) AllReadyH.nil)
        · skip
          go_simp;have hlt:=hHeld.size
          first | refine (run_sn (rowQ j) _ HLN.out HNS.out (by decide) _ _ _ (T28.out.keep hHeld) hv HS.out OKR.out HR.out (NS.out _ hHeld)).mono ?_ | refine (run_sn (rowQ j) _ HLN.out HNS.out (by decide) _ _ _ (T28.out.keep (below_then hHeld (drew_bel0 _))) (hv.keep (drew_bel0 _)) HS.out OKR.out HR.out (NS.out _ (below_then hHeld (drew_bel0 _)))).mono ?_
          rintro e uyr114 ⟨j2,rfl,hv2,_,hl2,b9⟩;clear hlt;clear hl2 hv;have hN : Below w28.heap.size w28 uyr114:=by first | exact below_then hHeld b9 | exact below_then (below_then hHeld (drew_bel0 _)) b9
          (go_wp2_with fail);clear hHeld b9;refine hK.out _ _ hN (fun hHeld => ?_);clear hK K hN;(try simp only [zq,Act.put]);refine zqt (i:=14) (v:=?v14r115) ?y14r115 ?r14r115
          case y14r115 =>
            intro u hSu;go_simp;(try with_reducible rfl)
          (try simp only [zq,Act.put]);refine zqt (i:=15) (v:=?v15r116) ?y15r116 ?r15r116
          case y15r116 =>
            intro u hSu;go_simp;(try with_reducible rfl)
          (try simp only [zq,Act.put]);refine zqt (i:=16) (v:=?v16r117) ?y16r117 ?r16r117
          case y16r117 =>
            intro u hSu;go_simp;(try with_reducible rfl)
          (try simp only [zq,Act.put]);refine zqr 17 fun K hK => ?_
          go_simp
          skip
          refine hK.out _ _ (al_th0 hHeld) (fun hHeld2 => ?_);clear hK K;(try simp only [zq,Act.put]);generalize hwa : World.alloc _ _ = uyr118 at hHeld2 ⊢;have b9 : Below uyr114.heap.size uyr114 uyr118:=by rw [← hwa]; exact al_one _ _
          obtain ⟨zb,ezb⟩ : ∃ z,z = uyr114.heap.size:=⟨_,rfl⟩;have hz : VBox uyr118 zb vm0:=by rw [← hwa,ezb]; exact vbox_zero _
          have hge : w28.heap.size ≤ zb:=by rw [ezb]; exact hHeld.size
          have HB9:=zqh b9;have EZ:=zqh ezb;clear b9;clear hwa hHeld;have hHeld:=hHeld2;clear hHeld2;refine zqr 18 fun K hK => ?_
          refine step_vst rfl _ _ rfl zb vm0 j2 (by first | rfl | (rw [ezb]; rfl)) rfl hz ?_;have kb2:=below_setRow hHeld hge (vmC j2);have hr2:=vrow hz j2;refine hK.out _ _ kb2 (fun hHeld2 => ?_);clear hK K;(try simp only [zq,Act.put]);refine zqt (i:=19) (v:=?v19r119) ?y19r119 ?r19r119
          case y19r119 =>
            intro u hSu;go_simp;(try with_reducible rfl)
          (try simp only [zq,Act.put]);refine wpAnyH_done (by kernel_rfl) ?_ _;refine NoPanic.normal ?_;(go_wp2_with fail);go_meet;refine ⟨zb,j2,(by first | rfl | (rw [ezb])),rfl,zqh ⟨hge,hr2,?_,kb2⟩⟩;exact IsVm.ex (X:=fun g => g = zb) (B:=0) hv2 hv2 (MLoc.refl _ _) (Ex.row (X:=fun g => g = zb) (b:=zb) ((Ex.refl _ _).below HB9.out) rfl _) fun g hg e => by subst e; rw [EZ.out] at hg; exact absurd hg (Nat.lt_irrefl _)
        · skip
          go_simp
          skip
          refine hK.out _ _ (al_th0 hHeld) (fun hHeld2 => ?_);clear hK K;(try simp only [zq,Act.put]);generalize hwa : World.alloc _ _ = uyr120 at hHeld2 ⊢;have b9 : Below uyr113.heap.size uyr113 uyr120:=by rw [← hwa]; exact al_one _ _
          obtain ⟨zb,ezb⟩ : ∃ z,z = uyr113.heap.size:=⟨_,rfl⟩;have hz : VBox uyr120 zb vm0:=by rw [← hwa,ezb]; exact vbox_zero _
          have hge : w28.heap.size ≤ zb:=by rw [ezb]; exact hHeld.size
          have hFS : Free jS zb:=free_of hv (by rw [ezb]; exact Nat.le_refl _);have hv1:=hv.keep b9;clear hv;have hv:=hv1;clear hv1;clear b9;clear hwa hHeld;have hHeld:=hHeld2;clear hHeld2;refine zqr 13 fun K hK => ?_
          go_simp;have hlt:=hHeld.size
          first | refine (run_sn (rowQ j) _ HLN.out HNS.out (by decide) _ _ _ (T28.out.keep hHeld) hv HS.out OKR.out HR.out (NS.out _ hHeld)).mono ?_ | refine (run_sn (rowQ j) _ HLN.out HNS.out (by decide) _ _ _ (T28.out.keep (below_then hHeld (drew_bel0 _))) (hv.keep (drew_bel0 _)) HS.out OKR.out HR.out (NS.out _ (below_then hHeld (drew_bel0 _)))).mono ?_
          rintro e uyr121 ⟨j2,rfl,hv2,_,hl2,b9⟩;clear hlt;have hFJ : Free j2 zb:=free_loc hl2 hFS hz.lt;have hz1 : VBox uyr121 zb vm0:=by first | exact hz.keep b9 | exact VBox.keep (w:=World.drew uyr120) hz b9
          clear hz;have hz:=hz1;clear hz1;clear hl2 hv;have hN : Below w28.heap.size w28 uyr121:=by first | exact below_then hHeld b9 | exact below_then (below_then hHeld (drew_bel0 _)) b9
          (go_wp2_with fail);clear hHeld b9;refine hK.out _ _ hN (fun hHeld => ?_);clear hK K hN;(try simp only [zq,Act.put]);refine zqt (i:=14) (v:=?v14r122) ?y14r122 ?r14r122
          case y14r122 =>
            intro u hSu;go_simp;(try with_reducible rfl)
          (try simp only [zq,Act.put]);refine zqt (i:=15) (v:=?v15r123) ?y15r123 ?r15r123
          case y15r123 =>
            intro u hSu;go_simp;(try with_reducible rfl)
          (try simp only [zq,Act.put]);refine zqt (i:=16) (v:=?v16r124) ?y16r124 ?r16r124
          case y16r124 =>
            intro u hSu;go_simp;(try with_reducible rfl)
          (try simp only [zq,Act.put]);refine zqr 18 fun K hK => ?_
          refine step_vst rfl _ _ rfl zb vm0 j2 (by first | rfl | (rw [ezb]; rfl)) rfl hz ?_;have kb2:=below_setRow hHeld hge (vmC j2);have hr2:=vrow hz j2;refine hK.out _ _ kb2 (fun hHeld2 => ?_);clear hK K;(try simp only [zq,Act.put]);refine zqt (i:=19) (v:=?v19r125) ?y19r125 ?r19r125
          case y19r125 =>
            intro u hSu;go_simp;(try with_reducible rfl)
          (try simp only [zq,Act.put]);refine wpAnyH_done (by kernel_rfl) ?_ _;refine NoPanic.normal ?_;(go_wp2_with fail);go_meet;refine ⟨zb,j2,(by first | rfl | (rw [ezb])),rfl,zqh ⟨hge,hr2,?_,kb2⟩⟩;exact isvm_free hv2 hFJ (Ex.row (X:=fun g => g = zb) (b:=zb) (Ex.refl _ _) rfl _) hz
      · skip
        go_simp
        skip
        refine hK.out _ _ (al_th0 hHeld) (fun hHeld2 => ?_);clear hK K;(try simp only [zq,Act.put]);generalize hwa : World.alloc _ _ = uyr126 at hHeld2 ⊢;have b9 : Below uyr112.heap.size uyr112 uyr126:=by rw [← hwa]; exact al_one _ _
        obtain ⟨zb,ezb⟩ : ∃ z,z = uyr112.heap.size:=⟨_,rfl⟩;have hz : VBox uyr126 zb vm0:=by rw [← hwa,ezb]; exact vbox_zero _
        have hge : w28.heap.size ≤ zb:=by rw [ezb]; exact hHeld.size
        have hR1:=hR.keep b9;clear hR;have hR:=hR1;clear hR1;have hne : gR ≠ zb:=by rw [ezb]; omega
        clear b9;clear hwa hHeld;have hHeld:=hHeld2;clear hHeld2;refine zqr 4 fun K hK => ?_
        go_simp;rw [← egR]
        first | refine (stocked_any _ _ _ _ _ hR).mono ?_ | refine (stocked_any _ _ _ _ _ (hR.keep (drew_bel0 _))).mono ?_
        rintro e uyr127 ⟨jS,rfl,hv,hs,hda,b9⟩;have HS:=zqh hs;clear hs hR;have hz1 : VBox uyr127 zb vm0:=by first | exact hz.keep b9 | exact VBox.keep (w:=World.drew uyr126) hz b9
        clear hz;have hz:=hz1;clear hz1;have hFS : Free jS zb:=free_stocked hv hz (fun q hq => by rw [hda] at hq; cases hq; exact hne);clear hda;have hN : Below w28.heap.size w28 uyr127:=by first | exact below_then hHeld b9 | exact below_then (below_then hHeld (drew_bel0 _)) b9
        (go_wp2_with fail);clear hHeld b9;refine hK.out _ _ hN (fun hHeld => ?_);clear hK K hN;(try simp only [zq,Act.put]);refine zqr 13 fun K hK => ?_
        go_simp;have hlt:=hHeld.size
        first | refine (run_sn (rowQ j) _ HLN.out HNS.out (by decide) _ _ _ (T28.out.keep hHeld) hv HS.out OKR.out HR.out (NS.out _ hHeld)).mono ?_ | refine (run_sn (rowQ j) _ HLN.out HNS.out (by decide) _ _ _ (T28.out.keep (below_then hHeld (drew_bel0 _))) (hv.keep (drew_bel0 _)) HS.out OKR.out HR.out (NS.out _ (below_then hHeld (drew_bel0 _)))).mono ?_
        rintro e uyr128 ⟨j2,rfl,hv2,_,hl2,b9⟩;clear hlt;have hFJ : Free j2 zb:=free_loc hl2 hFS hz.lt;have hz1 : VBox uyr128 zb vm0:=by first | exact hz.keep b9 | exact VBox.keep (w:=World.drew uyr127) hz b9
        clear hz;have hz:=hz1;clear hz1;clear hl2 hv;have hN : Below w28.heap.size w28 uyr128:=by first | exact below_then hHeld b9 | exact below_then (below_then hHeld (drew_bel0 _)) b9
        (go_wp2_with fail);clear hHeld b9;refine hK.out _ _ hN (fun hHeld => ?_);clear hK K hN;(try simp only [zq,Act.put]);refine zqt (i:=14) (v:=?v14r129) ?y14r129 ?r14r129
        case y14r129 =>
          intro u hSu;go_simp;(try with_reducible rfl)
        (try simp only [zq,Act.put]);refine zqt (i:=15) (v:=?v15r130) ?y15r130 ?r15r130
        case y15r130 =>
          intro u hSu;go_simp;(try with_reducible rfl)
        (try simp only [zq,Act.put]);refine zqt (i:=16) (v:=?v16r131) ?y16r131 ?r16r131
        case y16r131 =>
          intro u hSu;go_simp;(try with_reducible rfl)
        (try simp only [zq,Act.put]);refine zqr 18 fun K hK => ?_
        refine step_vst rfl _ _ rfl zb vm0 j2 (by first | rfl | (rw [ezb]; rfl)) rfl hz ?_;have kb2:=below_setRow hHeld hge (vmC j2);have hr2:=vrow hz j2;refine hK.out _ _ kb2 (fun hHeld2 => ?_);clear hK K;(try simp only [zq,Act.put]);refine zqt (i:=19) (v:=?v19r132) ?y19r132 ?r19r132
        case y19r132 =>
          intro u hSu;go_simp;(try with_reducible rfl)
        (try simp only [zq,Act.put]);refine wpAnyH_done (by kernel_rfl) ?_ _;refine NoPanic.normal ?_;(go_wp2_with fail);go_meet;refine ⟨zb,j2,(by first | rfl | (rw [ezb])),rfl,zqh ⟨hge,hr2,?_,kb2⟩⟩;exact isvm_free hv2 hFJ (Ex.row (X:=fun g => g = zb) (b:=zb) (Ex.refl _ _) rfl _) hz
    · skip
      go_simp
      skip
      refine hK.out _ _ (al_th0 hHeld) (fun hHeld2 => ?_);clear hK K;(try simp only [zq,Act.put]);generalize hwa : World.alloc _ _ = uyr133 at hHeld2 ⊢;have b9 : Below w28.heap.size w28 uyr133:=by rw [← hwa]; exact al_one _ _
      obtain ⟨zb,ezb⟩ : ∃ z,z = w28.heap.size:=⟨_,rfl⟩;have hz : VBox uyr133 zb vm0:=by rw [← hwa,ezb]; exact vbox_zero _
      have hge : w28.heap.size ≤ zb:=by rw [ezb]; exact hHeld.size
      clear b9;clear hwa hHeld;have hHeld:=hHeld2;clear hHeld2;refine zqr 3 fun K hK => ?_
      go_simp;(go_wp2_with fail);refine hK.out _ _ (al_th0 hHeld) (fun hHeld2 => ?_);clear hK K;(try simp only [zq,Act.put]);generalize hwa : World.alloc _ _ = uyr134 at hHeld2 ⊢;have b9 : Below uyr133.heap.size uyr133 uyr134:=by rw [← hwa]; exact al_one _ _
      obtain ⟨gR,egR⟩ : ∃ z,z = uyr133.heap.size:=⟨_,rfl⟩;have hR : Row uyr134 (some ⟨gR,0,none⟩) 3 3 [a,b,c]:=by rw [← hwa,egR]; exact row_lit _ [a,b,c] (by show 3 ≤ 65536; decide)
      have hgl : gR < uyr134.heap.size:=by rw [egR,← hwa]; simp
      have hne : gR ≠ zb:=by have:=hz.lt; omega
      have hz1 : VBox uyr134 zb vm0:=by first | exact hz.keep b9 | exact VBox.keep (w:=World.drew uyr133) hz b9
      clear hz;have hz:=hz1;clear hz1;clear b9 hwa hHeld;have hHeld:=hHeld2;clear hHeld2;refine zqr 4 fun K hK => ?_
      go_simp;rw [← egR]
      first | refine (stocked_any _ _ _ _ _ hR).mono ?_ | refine (stocked_any _ _ _ _ _ (hR.keep (drew_bel0 _))).mono ?_
      rintro e uyr135 ⟨jS,rfl,hv,hs,hda,b9⟩;have HS:=zqh hs;clear hs hR;have hz1 : VBox uyr135 zb vm0:=by first | exact hz.keep b9 | exact VBox.keep (w:=World.drew uyr134) hz b9
      clear hz;have hz:=hz1;clear hz1;have hFS : Free jS zb:=free_stocked hv hz (fun q hq => by rw [hda] at hq; cases hq; exact hne);clear hda;have hN : Below w28.heap.size w28 uyr135:=by first | exact below_then hHeld b9 | exact below_then (below_then hHeld (drew_bel0 _)) b9
      (go_wp2_with fail);clear hHeld b9;refine hK.out _ _ hN (fun hHeld => ?_);clear hK K hN;(try simp only [zq,Act.put]);refine zqr 13 fun K hK => ?_
      go_simp;have hlt:=hHeld.size
      first | refine (run_sn (rowQ j) _ HLN.out HNS.out (by decide) _ _ _ (T28.out.keep hHeld) hv HS.out OKR.out HR.out (NS.out _ hHeld)).mono ?_ | refine (run_sn (rowQ j) _ HLN.out HNS.out (by decide) _ _ _ (T28.out.keep (below_then hHeld (drew_bel0 _))) (hv.keep (drew_bel0 _)) HS.out OKR.out HR.out (NS.out _ (below_then hHeld (drew_bel0 _)))).mono ?_
      rintro e uyr136 ⟨j2,rfl,hv2,_,hl2,b9⟩;clear hlt;have hFJ : Free j2 zb:=free_loc hl2 hFS hz.lt;have hz1 : VBox uyr136 zb vm0:=by first | exact hz.keep b9 | exact VBox.keep (w:=World.drew uyr135) hz b9
      clear hz;have hz:=hz1;clear hz1;clear hl2 hv;have hN : Below w28.heap.size w28 uyr136:=by first | exact below_then hHeld b9 | exact below_then (below_then hHeld (drew_bel0 _)) b9
      (go_wp2_with fail);clear hHeld b9;refine hK.out _ _ hN (fun hHeld => ?_);clear hK K hN;(try simp only [zq,Act.put]);refine zqt (i:=14) (v:=?v14r137) ?y14r137 ?r14r137
      case y14r137 =>
        intro u hSu;go_simp;(try with_reducible rfl)
      (try simp only [zq,Act.put]);refine zqt (i:=15) (v:=?v15r138) ?y15r138 ?r15r138
      case y15r138 =>
        intro u hSu;go_simp;(try with_reducible rfl)
      (try simp only [zq,Act.put]);refine zqt (i:=16) (v:=?v16r139) ?y16r139 ?r16r139
      case y16r139 =>
        intro u hSu;go_simp;(try with_reducible rfl)
      (try simp only [zq,Act.put]);refine zqr 18 fun K hK => ?_
      refine step_vst rfl _ _ rfl zb vm0 j2 (by first | rfl | (rw [ezb]; rfl)) rfl hz ?_;have kb2:=below_setRow hHeld hge (vmC j2);have hr2:=vrow hz j2;refine hK.out _ _ kb2 (fun hHeld2 => ?_);clear hK K;(try simp only [zq,Act.put]);refine zqt (i:=19) (v:=?v19r140) ?y19r140 ?r19r140
      case y19r140 =>
        intro u hSu;go_simp;(try with_reducible rfl)
      (try simp only [zq,Act.put]);refine wpAnyH_done (by kernel_rfl) ?_ _;refine NoPanic.normal ?_;(go_wp2_with fail);go_meet;refine ⟨zb,j2,(by first | rfl | (rw [ezb])),rfl,zqh ⟨hge,hr2,?_,kb2⟩⟩;exact isvm_free hv2 hFJ (Ex.row (X:=fun g => g = zb) (b:=zb) (Ex.refl _ _) rfl _) hz
  case rest =>
    obtain ⟨bX,kX,rfl,rfl,HD⟩:=hcut;obtain ⟨w29,rfl⟩ : ∃ x,x = wc:=⟨_,rfl⟩;have bb:=HD.out.bel;have hp:=HD.out.box;have hv:=HD.out.vm;clear HD;have T29:=zqh (T28.out.keep bb);have TA29:=zqh (TA28.out.keep bb);have TL29:=zqh (TL28.out.keep bb);have TR29:=zqh (TR28.out.keep bb);have B29:=zqh (below_then B28.out bb);have X29:=zqh hp;have MX29:=zqh hv;clear bb T28 TA28 TL28 TR28 B28;clear hp hv;clear CJ HG NS HLN HNS HR OKR E2;clear TA29;clear hj hj1 hj2 hj3;obtain ⟨i,hj⟩ : ∃ j : Nat,t % 7 = (j : Int):=⟨(t % 7).toNat,by omega⟩;have hj1 : i < 7:=by omega
    have hj2 : (i : Int) < 7:=by omega
    have hj3 : (0 : Int) ≤ (i : Int):=by omega
    have E2 : Hid (t.tmod 7 = (i : Int)):=by show _ = _; rw [Int.tmod_eq_emod_of_nonneg h0]; exact hj
    obtain ⟨l,hl9,q1,q2,q3,q4,q5,q6,q7,q8⟩:=same_run HA.out.1 HA.out.2.1 HA.out.2.2 i hj1;have HL9:=zqh hl9;have L1:=zqh q1;have L2:=zqh q2;have L3:=zqh q3;have L4:=zqh q4;have R1:=zqh q5;have R2:=zqh q6;have R3:=zqh q7;have R4:=zqh q8;clear q1 q2 q3 q4 q5 q6 q7 q8 hl9;obtain ⟨gN,cj,sj⟩:=TL29.out.2 i hj1;have CJ:=zqh cj;have HG:=zqh TL29.out.1;have NS:=zqh fun u (bu : Below w29.heap.size w29 u) => sj.keep bu
    clear cj sj;go_upto_region 9 with fail
    go_cut [12,13] (fun s12 s13 wx => ∃ b9 j2,s12 = .pointer (some ⟨b9,0,none⟩) ∧ s13 = .bool true ∧ Hid (DoneR w29 wx b9 j2 (stL l)))
    case first =>
      refine wp_region_noPanic ?_;refine wp_region_held_drew (S:=fun a9 => Below w29.heap.size w29 a9) (by kernel_rfl) (drew_bel0 _) (fun hHeld => ?_);refine zqt (i:=0) (v:=?v0r21) ?y0r21 ?r0r21
      case y0r21 =>
        intro u hSu;go_simp;(try with_reducible rfl)
      (try simp only [zq,Act.put]);refine zqt (i:=1) (v:=?v1r22) ?y1r22 ?r1r22
      case y1r22 =>
        intro u hSu;go_simp;(try with_reducible rfl)
      (try simp only [zq,Act.put]);refine zqt (i:=2) (v:=?v2r23) ?y2r23 ?r2r23
      case y2r23 =>
        intro u hSu;go_simp;(try with_reducible rfl)
      (try simp only [zq,Act.put]);refine zqt (i:=5) (v:=?v5r24) ?y5r24 ?r5r24
      case y5r24 =>
        intro u hSu;go_simp;(try with_reducible rfl)
      (try simp only [zq,Act.put]);refine zqt (i:=6) (v:=?v6r25) ?y6r25 ?r6r25
      case y6r25 =>
        intro u hSu;go_simp;(try with_reducible rfl)
      (try simp only [zq,Act.put]);refine zqt (i:=7) (v:=?v7r26) ?y7r26 ?r7r26
      case y7r26 =>
        intro u hSu;go_simp;(try with_reducible rfl)
      (try simp only [zq,Act.put]);refine zqt (i:=8) (v:=?v8r27) ?y8r27 ?r8r27
      case y8r27 =>
        intro u hSu;go_simp;(try with_reducible rfl)
      (try simp only [zq,Act.put]);refine zqt (i:=9) (v:=?v9r28) ?y9r28 ?r9r28
      case y9r28 =>
        intro u hSu;go_simp;(try with_reducible rfl)
      (try simp only [zq,Act.put]);refine zqt (i:=10) (v:=?v10r29) ?y10r29 ?r10r29
      case y10r29 =>
        intro u hSu;go_simp;(try with_reducible rfl)
      (try simp only [zq,Act.put]);refine zqt (i:=11) (v:=?v11r210) ?y11r210 ?r11r210
      case y11r210 =>
        intro u hSu;(try dsimp only at hSu);have e1:=E1.out;have e2:=E2.out;go_simp;(try with_reducible rfl)
      (try simp only [zq,Act.put]);refine zqt (i:=12) (v:=?v12r211) ?y12r211 ?r12r211
      case y12r211 =>
        intro u hSu;go_simp;(try with_reducible rfl)
      (try simp only [zq,Act.put]);refine zqt (i:=13) (v:=?v13r212) ?y13r212 ?r13r212
      case y13r212 =>
        intro u hSu;(try dsimp only at hSu);have q0 : u.cell? ⟨w13.heap.size + 1 + 1 + 1 + 1 + 1 + 1 + 1 + 1 + 1 + 1 + 1 + 1 + 1 + 1,i * 2,none⟩ = some (.slice (some ⟨gN,0,none⟩) 1 1):=(hSu.cell (p:=⟨w13.heap.size + 1 + 1 + 1 + 1 + 1 + 1 + 1 + 1 + 1 + 1 + 1 + 1 + 1 + 1,i * 2,none⟩) HG.out).trans CJ.out;go_simp;(try with_reducible rfl)
      (try simp only [zq,Act.put]);refine wpAnyH_ready (rs:=[3,18]) (by kernel_rfl) (by simp) ?_;refine AllReadyH.cons (o:=_) rfl (fun K hK => ?_) (AllReadyH.cons (o:=_) rfl (fun K hK => ?_) AllReadyH.nil)
      · skip
        go_simp;(go_wp2_with fail);refine hK.out _ _ (al_th0 hHeld) (fun hHeld2 => ?_);clear hK K;(try simp only [zq,Act.put]);generalize hwa : World.alloc _ _ = uyr213 at hHeld2 ⊢;have b9 : Below w29.heap.size w29 uyr213:=by rw [← hwa]; exact al_one _ _
        obtain ⟨gR,egR⟩ : ∃ z,z = w29.heap.size:=⟨_,rfl⟩;have hR : Row uyr213 (some ⟨gR,0,none⟩) 3 3 [a,b,c]:=by rw [← hwa,egR]; exact row_lit _ [a,b,c] (by show 3 ≤ 65536; decide)
        have hgl : gR < uyr213.heap.size:=by rw [egR,← hwa]; simp
        clear b9 hwa hHeld;have hHeld:=hHeld2;clear hHeld2;refine wpAnyH_ready (rs:=[4,18]) (by kernel_rfl) (by simp) ?_;refine AllReadyH.cons (o:=_) rfl (fun K hK => ?_) (AllReadyH.cons (o:=_) rfl (fun K hK => ?_) AllReadyH.nil)
        · skip
          go_simp;rw [← egR]
          first | refine (stocked_any _ _ _ _ _ hR).mono ?_ | refine (stocked_any _ _ _ _ _ (hR.keep (drew_bel0 _))).mono ?_
          rintro e uyr214 ⟨jS,rfl,hv,hs,hda,b9⟩;have HS:=zqh hs;clear hs hR;clear hda;have hN : Below w29.heap.size w29 uyr214:=by first | exact below_then hHeld b9 | exact below_then (below_then hHeld (drew_bel0 _)) b9
          (go_wp2_with fail);clear hHeld b9;refine hK.out _ _ hN (fun hHeld => ?_);clear hK K hN;(try simp only [zq,Act.put]);refine wpAnyH_ready (rs:=[14,18]) (by kernel_rfl) (by simp) ?_;refine AllReadyH.cons (o:=_) rfl (fun K hK => ?_) (AllReadyH.cons (o:=_) rfl (fun K hK => ?_) AllReadyH.nil)
          · skip
            go_simp;have hlt:=hHeld.size
            first | refine (run_sn (leftQ i) _ L1.out L2.out (by decide) _ _ _ (T29.out.keep hHeld) hv HS.out L4.out L3.out (NS.out _ hHeld)).mono ?_ | refine (run_sn (leftQ i) _ L1.out L2.out (by decide) _ _ _ (T29.out.keep (below_then hHeld (drew_bel0 _))) (hv.keep (drew_bel0 _)) HS.out L4.out L3.out (NS.out _ (below_then hHeld (drew_bel0 _)))).mono ?_
            rintro e uyr215 ⟨j2,rfl,hv2,_,hl2,b9⟩;clear hlt;clear hl2 hv;have hN : Below w29.heap.size w29 uyr215:=by first | exact below_then hHeld b9 | exact below_then (below_then hHeld (drew_bel0 _)) b9
            (go_wp2_with fail);clear hHeld b9;refine hK.out _ _ hN (fun hHeld => ?_);clear hK K hN;(try simp only [zq,Act.put]);refine zqt (i:=15) (v:=?v15r216) ?y15r216 ?r15r216
            case y15r216 =>
              intro u hSu;go_simp;(try with_reducible rfl)
            (try simp only [zq,Act.put]);refine zqt (i:=16) (v:=?v16r217) ?y16r217 ?r16r217
            case y16r217 =>
              intro u hSu;go_simp;(try with_reducible rfl)
            (try simp only [zq,Act.put]);refine zqt (i:=17) (v:=?v17r218) ?y17r218 ?r17r218
            case y17r218 =>
              intro u hSu;go_simp;(try with_reducible rfl)
            (try simp only [zq,Act.put]);refine zqr 18 fun K hK => ?_
            go_simp
            skip
            refine hK.out _ _ (al_th0 hHeld) (fun hHeld2 => ?_);clear hK K;(try simp only [zq,Act.put]);generalize hwa : World.alloc _ _ = uyr219 at hHeld2 ⊢;have b9 : Below uyr215.heap.size uyr215 uyr219:=by rw [← hwa]; exact al_one _ _
            obtain ⟨zb,ezb⟩ : ∃ z,z = uyr215.heap.size:=⟨_,rfl⟩;have hz : VBox uyr219 zb vm0:=by rw [← hwa,ezb]; exact vbox_zero _
            have hge : w29.heap.size ≤ zb:=by rw [ezb]; exact hHeld.size
            have HB9:=zqh b9;have EZ:=zqh ezb;clear b9;clear hwa hHeld;have hHeld:=hHeld2;clear hHeld2;refine zqr 19 fun K hK => ?_
            refine step_vst rfl _ _ rfl zb vm0 j2 (by first | rfl | (rw [ezb]; rfl)) rfl hz ?_;have kb2:=below_setRow hHeld hge (vmC j2);have hr2:=vrow hz j2;refine hK.out _ _ kb2 (fun hHeld2 => ?_);clear hK K;(try simp only [zq,Act.put]);refine zqt (i:=20) (v:=?v20r220) ?y20r220 ?r20r220
            case y20r220 =>
              intro u hSu;go_simp;(try with_reducible rfl)
            (try simp only [zq,Act.put]);refine wpAnyH_done (by kernel_rfl) ?_ _;refine NoPanic.normal ?_;(go_wp2_with fail);go_meet;refine ⟨zb,j2,(by first | rfl | (rw [ezb])),rfl,zqh ⟨hge,hr2,?_,kb2⟩⟩;exact IsVm.ex (X:=fun g => g = zb) (B:=0) hv2 hv2 (MLoc.refl _ _) (Ex.row (X:=fun g => g = zb) (b:=zb) ((Ex.refl _ _).below HB9.out) rfl _) fun g hg e => by subst e; rw [EZ.out] at hg; exact absurd hg (Nat.lt_irrefl _)
          · skip
            go_simp
            skip
            refine hK.out _ _ (al_th0 hHeld) (fun hHeld2 => ?_);clear hK K;(try simp only [zq,Act.put]);generalize hwa : World.alloc _ _ = uyr221 at hHeld2 ⊢;have b9 : Below uyr214.heap.size uyr214 uyr221:=by rw [← hwa]; exact al_one _ _
            obtain ⟨zb,ezb⟩ : ∃ z,z = uyr214.heap.size:=⟨_,rfl⟩;have hz : VBox uyr221 zb vm0:=by rw [← hwa,ezb]; exact vbox_zero _
            have hge : w29.heap.size ≤ zb:=by rw [ezb]; exact hHeld.size
            have hFS : Free jS zb:=free_of hv (by rw [ezb]; exact Nat.le_refl _);have hv1:=hv.keep b9;clear hv;have hv:=hv1;clear hv1;clear b9;clear hwa hHeld;have hHeld:=hHeld2;clear hHeld2;refine zqr 14 fun K hK => ?_
            go_simp;have hlt:=hHeld.size
            first | refine (run_sn (leftQ i) _ L1.out L2.out (by decide) _ _ _ (T29.out.keep hHeld) hv HS.out L4.out L3.out (NS.out _ hHeld)).mono ?_ | refine (run_sn (leftQ i) _ L1.out L2.out (by decide) _ _ _ (T29.out.keep (below_then hHeld (drew_bel0 _))) (hv.keep (drew_bel0 _)) HS.out L4.out L3.out (NS.out _ (below_then hHeld (drew_bel0 _)))).mono ?_
            rintro e uyr222 ⟨j2,rfl,hv2,_,hl2,b9⟩;clear hlt;have hFJ : Free j2 zb:=free_loc hl2 hFS hz.lt;have hz1 : VBox uyr222 zb vm0:=by first | exact hz.keep b9 | exact VBox.keep (w:=World.drew uyr221) hz b9
            clear hz;have hz:=hz1;clear hz1;clear hl2 hv;have hN : Below w29.heap.size w29 uyr222:=by first | exact below_then hHeld b9 | exact below_then (below_then hHeld (drew_bel0 _)) b9
            (go_wp2_with fail);clear hHeld b9;refine hK.out _ _ hN (fun hHeld => ?_);clear hK K hN;(try simp only [zq,Act.put]);refine zqt (i:=15) (v:=?v15r223) ?y15r223 ?r15r223
            case y15r223 =>
              intro u hSu;go_simp;(try with_reducible rfl)
            (try simp only [zq,Act.put]);refine zqt (i:=16) (v:=?v16r224) ?y16r224 ?r16r224
            case y16r224 =>
              intro u hSu;go_simp;(try with_reducible rfl)
            (try simp only [zq,Act.put]);refine zqt (i:=17) (v:=?v17r225) ?y17r225 ?r17r225
            case y17r225 =>
              intro u hSu;go_simp;(try with_reducible rfl)
            (try simp only [zq,Act.put]);refine zqr 19 fun K hK => ?_
            refine step_vst rfl _ _ rfl zb vm0 j2 (by first | rfl | (rw [ezb]; rfl)) rfl hz ?_;have kb2:=below_setRow hHeld hge (vmC j2);have hr2:=vrow hz j2;refine hK.out _ _ kb2 (fun hHeld2 => ?_);clear hK K;(try simp only [zq,Act.put]);refine zqt (i:=20) (v:=?v20r226) ?y20r226 ?r20r226
            case y20r226 =>
              intro u hSu;go_simp;(try with_reducible rfl)
            (try simp only [zq,Act.put]);refine wpAnyH_done (by kernel_rfl) ?_ _;refine NoPanic.normal ?_;(go_wp2_with fail);go_meet;refine ⟨zb,j2,(by first | rfl | (rw [ezb])),rfl,zqh ⟨hge,hr2,?_,kb2⟩⟩;exact isvm_free hv2 hFJ (Ex.row (X:=fun g => g = zb) (b:=zb) (Ex.refl _ _) rfl _) hz
        · skip
          go_simp
          skip
          refine hK.out _ _ (al_th0 hHeld) (fun hHeld2 => ?_);clear hK K;(try simp only [zq,Act.put]);generalize hwa : World.alloc _ _ = uyr227 at hHeld2 ⊢;have b9 : Below uyr213.heap.size uyr213 uyr227:=by rw [← hwa]; exact al_one _ _
          obtain ⟨zb,ezb⟩ : ∃ z,z = uyr213.heap.size:=⟨_,rfl⟩;have hz : VBox uyr227 zb vm0:=by rw [← hwa,ezb]; exact vbox_zero _
          have hge : w29.heap.size ≤ zb:=by rw [ezb]; exact hHeld.size
          have hR1:=hR.keep b9;clear hR;have hR:=hR1;clear hR1;have hne : gR ≠ zb:=by rw [ezb]; omega
          clear b9;clear hwa hHeld;have hHeld:=hHeld2;clear hHeld2;refine zqr 4 fun K hK => ?_
          go_simp;rw [← egR]
          first | refine (stocked_any _ _ _ _ _ hR).mono ?_ | refine (stocked_any _ _ _ _ _ (hR.keep (drew_bel0 _))).mono ?_
          rintro e uyr228 ⟨jS,rfl,hv,hs,hda,b9⟩;have HS:=zqh hs;clear hs hR;have hz1 : VBox uyr228 zb vm0:=by first | exact hz.keep b9 | exact VBox.keep (w:=World.drew uyr227) hz b9
          clear hz;have hz:=hz1;clear hz1;have hFS : Free jS zb:=free_stocked hv hz (fun q hq => by rw [hda] at hq; cases hq; exact hne);clear hda;have hN : Below w29.heap.size w29 uyr228:=by first | exact below_then hHeld b9 | exact below_then (below_then hHeld (drew_bel0 _)) b9
          (go_wp2_with fail);clear hHeld b9;refine hK.out _ _ hN (fun hHeld => ?_);clear hK K hN;(try simp only [zq,Act.put]);refine zqr 14 fun K hK => ?_
          go_simp;have hlt:=hHeld.size
          first | refine (run_sn (leftQ i) _ L1.out L2.out (by decide) _ _ _ (T29.out.keep hHeld) hv HS.out L4.out L3.out (NS.out _ hHeld)).mono ?_ | refine (run_sn (leftQ i) _ L1.out L2.out (by decide) _ _ _ (T29.out.keep (below_then hHeld (drew_bel0 _))) (hv.keep (drew_bel0 _)) HS.out L4.out L3.out (NS.out _ (below_then hHeld (drew_bel0 _)))).mono ?_
          rintro e uyr229 ⟨j2,rfl,hv2,_,hl2,b9⟩;clear hlt;have hFJ : Free j2 zb:=free_loc hl2 hFS hz.lt;have hz1 : VBox uyr229 zb vm0:=by first | exact hz.keep b9 | exact VBox.keep (w:=World.drew uyr228) hz b9
          clear hz;have hz:=hz1;clear hz1;clear hl2 hv;have hN : Below w29.heap.size w29 uyr229:=by first | exact below_then hHeld b9 | exact below_then (below_then hHeld (drew_bel0 _)) b9
          (go_wp2_with fail);clear hHeld b9;refine hK.out _ _ hN (fun hHeld => ?_);clear hK K hN;(try simp only [zq,Act.put]);refine zqt (i:=15) (v:=?v15r230) ?y15r230 ?r15r230
          case y15r230 =>
            intro u hSu;go_simp;(try with_reducible rfl)
          (try simp only [zq,Act.put]);refine zqt (i:=16) (v:=?v16r231) ?y16r231 ?r16r231
          case y16r231 =>
            intro u hSu;go_simp;(try with_reducible rfl)
          (try simp only [zq,Act.put]);refine zqt (i:=17) (v:=?v17r232) ?y17r232 ?r17r232
          case y17r232 =>
            intro u hSu;go_simp;(try with_reducible rfl)
          (try simp only [zq,Act.put]);refine zqr 19 fun K hK => ?_
          refine step_vst rfl _ _ rfl zb vm0 j2 (by first | rfl | (rw [ezb]; rfl)) rfl hz ?_;have kb2:=below_setRow hHeld hge (vmC j2);have hr2:=vrow hz j2;refine hK.out _ _ kb2 (fun hHeld2 => ?_);clear hK K;(try simp only [zq,Act.put]);refine zqt (i:=20) (v:=?v20r233) ?y20r233 ?r20r233
          case y20r233 =>
            intro u hSu;go_simp;(try with_reducible rfl)
          (try simp only [zq,Act.put]);refine wpAnyH_done (by kernel_rfl) ?_ _;refine NoPanic.normal ?_;(go_wp2_with fail);go_meet;refine ⟨zb,j2,(by first | rfl | (rw [ezb])),rfl,zqh ⟨hge,hr2,?_,kb2⟩⟩;exact isvm_free hv2 hFJ (Ex.row (X:=fun g => g = zb) (b:=zb) (Ex.refl _ _) rfl _) hz
      · skip
        go_simp
        skip
        refine hK.out _ _ (al_th0 hHeld) (fun hHeld2 => ?_);clear hK K;(try simp only [zq,Act.put]);generalize hwa : World.alloc _ _ = uyr234 at hHeld2 ⊢;have b9 : Below w29.heap.size w29 uyr234:=by rw [← hwa]; exact al_one _ _
        obtain ⟨zb,ezb⟩ : ∃ z,z = w29.heap.size:=⟨_,rfl⟩;have hz : VBox uyr234 zb vm0:=by rw [← hwa,ezb]; exact vbox_zero _
        have hge : w29.heap.size ≤ zb:=by rw [ezb]; exact hHeld.size
        clear b9;clear hwa hHeld;have hHeld:=hHeld2;clear hHeld2;refine zqr 3 fun K hK => ?_
        go_simp;(go_wp2_with fail);refine hK.out _ _ (al_th0 hHeld) (fun hHeld2 => ?_);clear hK K;(try simp only [zq,Act.put]);generalize hwa : World.alloc _ _ = uyr235 at hHeld2 ⊢;have b9 : Below uyr234.heap.size uyr234 uyr235:=by rw [← hwa]; exact al_one _ _
        obtain ⟨gR,egR⟩ : ∃ z,z = uyr234.heap.size:=⟨_,rfl⟩;have hR : Row uyr235 (some ⟨gR,0,none⟩) 3 3 [a,b,c]:=by rw [← hwa,egR]; exact row_lit _ [a,b,c] (by show 3 ≤ 65536; decide)
        have hgl : gR < uyr235.heap.size:=by rw [egR,← hwa]; simp
        have hne : gR ≠ zb:=by have:=hz.lt; omega
        have hz1 : VBox uyr235 zb vm0:=by first | exact hz.keep b9 | exact VBox.keep (w:=World.drew uyr234) hz b9
        clear hz;have hz:=hz1;clear hz1;clear b9 hwa hHeld;have hHeld:=hHeld2;clear hHeld2;refine zqr 4 fun K hK => ?_
        go_simp;rw [← egR]
        first | refine (stocked_any _ _ _ _ _ hR).mono ?_ | refine (stocked_any _ _ _ _ _ (hR.keep (drew_bel0 _))).mono ?_
        rintro e uyr236 ⟨jS,rfl,hv,hs,hda,b9⟩;have HS:=zqh hs;clear hs hR;have hz1 : VBox uyr236 zb vm0:=by first | exact hz.keep b9 | exact VBox.keep (w:=World.drew uyr235) hz b9
        clear hz;have hz:=hz1;clear hz1;have hFS : Free jS zb:=free_stocked hv hz (fun q hq => by rw [hda] at hq; cases hq; exact hne);clear hda;have hN : Below w29.heap.size w29 uyr236:=by first | exact below_then hHeld b9 | exact below_then (below_then hHeld (drew_bel0 _)) b9
        (go_wp2_with fail);clear hHeld b9;refine hK.out _ _ hN (fun hHeld => ?_);clear hK K hN;(try simp only [zq,Act.put]);refine zqr 14 fun K hK => ?_
        go_simp;have hlt:=hHeld.size
        first | refine (run_sn (leftQ i) _ L1.out L2.out (by decide) _ _ _ (T29.out.keep hHeld) hv HS.out L4.out L3.out (NS.out _ hHeld)).mono ?_ | refine (run_sn (leftQ i) _ L1.out L2.out (by decide) _ _ _ (T29.out.keep (below_then hHeld (drew_bel0 _))) (hv.keep (drew_bel0 _)) HS.out L4.out L3.out (NS.out _ (below_then hHeld (drew_bel0 _)))).mono ?_
        rintro e uyr237 ⟨j2,rfl,hv2,_,hl2,b9⟩;clear hlt;have hFJ : Free j2 zb:=free_loc hl2 hFS hz.lt;have hz1 : VBox uyr237 zb vm0:=by first | exact hz.keep b9 | exact VBox.keep (w:=World.drew uyr236) hz b9
        clear hz;have hz:=hz1;clear hz1;clear hl2 hv;have hN : Below w29.heap.size w29 uyr237:=by first | exact below_then hHeld b9 | exact below_then (below_then hHeld (drew_bel0 _)) b9
        (go_wp2_with fail);clear hHeld b9;refine hK.out _ _ hN (fun hHeld => ?_);clear hK K hN;(try simp only [zq,Act.put]);refine zqt (i:=15) (v:=?v15r238) ?y15r238 ?r15r238
        case y15r238 =>
          intro u hSu;go_simp;(try with_reducible rfl)
        (try simp only [zq,Act.put]);refine zqt (i:=16) (v:=?v16r239) ?y16r239 ?r16r239
        case y16r239 =>
          intro u hSu;go_simp;(try with_reducible rfl)
        (try simp only [zq,Act.put]);refine zqt (i:=17) (v:=?v17r240) ?y17r240 ?r17r240
        case y17r240 =>
          intro u hSu;go_simp;(try with_reducible rfl)
        (try simp only [zq,Act.put]);refine zqr 19 fun K hK => ?_
        refine step_vst rfl _ _ rfl zb vm0 j2 (by first | rfl | (rw [ezb]; rfl)) rfl hz ?_;have kb2:=below_setRow hHeld hge (vmC j2);have hr2:=vrow hz j2;refine hK.out _ _ kb2 (fun hHeld2 => ?_);clear hK K;(try simp only [zq,Act.put]);refine zqt (i:=20) (v:=?v20r241) ?y20r241 ?r20r241
        case y20r241 =>
          intro u hSu;go_simp;(try with_reducible rfl)
        (try simp only [zq,Act.put]);refine wpAnyH_done (by kernel_rfl) ?_ _;refine NoPanic.normal ?_;(go_wp2_with fail);go_meet;refine ⟨zb,j2,(by first | rfl | (rw [ezb])),rfl,zqh ⟨hge,hr2,?_,kb2⟩⟩;exact isvm_free hv2 hFJ (Ex.row (X:=fun g => g = zb) (b:=zb) (Ex.refl _ _) rfl _) hz
    case rest =>
      obtain ⟨bP,kP,rfl,rfl,HD⟩:=hcut;obtain ⟨w30,rfl⟩ : ∃ x,x = wc:=⟨_,rfl⟩;have bb:=HD.out.bel;have hp:=HD.out.box;have hv:=HD.out.vm;clear HD;have T30:=zqh (T29.out.keep bb);have TL30:=zqh (TL29.out.keep bb);have TR30:=zqh (TR29.out.keep bb);have X30:=zqh (X29.out.keep bb);have MX30:=zqh (MX29.out.keep bb);have B30:=zqh (below_then B29.out bb);have P30:=zqh hp;have MP30:=zqh hv;clear bb T29 TL29 TR29 X29 MX29 B29;clear hp hv;clear CJ HG NS;clear TL30;obtain ⟨gN,cj,sj⟩:=TR30.out.2 i hj1;have CJ:=zqh cj;have HG:=zqh TR30.out.1;have NS:=zqh fun u (bu : Below w30.heap.size w30 u) => sj.keep bu
      clear cj sj;go_upto_region 10 with fail
      go_cut [14,15] (fun s14 s15 wx => ∃ b9 j2,s14 = .pointer (some ⟨b9,0,none⟩) ∧ s15 = .bool true ∧ Hid (DoneR w30 wx b9 j2 (stL l)))
      case first =>
        refine wp_region_noPanic ?_;refine wp_region_held_drew (S:=fun a9 => Below w30.heap.size w30 a9) (by kernel_rfl) (drew_bel0 _) (fun hHeld => ?_);refine zqt (i:=0) (v:=?v0r31) ?y0r31 ?r0r31
        case y0r31 =>
          intro u hSu;go_simp;(try with_reducible rfl)
        (try simp only [zq,Act.put]);refine zqt (i:=1) (v:=?v1r32) ?y1r32 ?r1r32
        case y1r32 =>
          intro u hSu;go_simp;(try with_reducible rfl)
        (try simp only [zq,Act.put]);refine zqt (i:=2) (v:=?v2r33) ?y2r33 ?r2r33
        case y2r33 =>
          intro u hSu;go_simp;(try with_reducible rfl)
        (try simp only [zq,Act.put]);refine zqt (i:=5) (v:=?v5r34) ?y5r34 ?r5r34
        case y5r34 =>
          intro u hSu;go_simp;(try with_reducible rfl)
        (try simp only [zq,Act.put]);refine zqt (i:=6) (v:=?v6r35) ?y6r35 ?r6r35
        case y6r35 =>
          intro u hSu;go_simp;(try with_reducible rfl)
        (try simp only [zq,Act.put]);refine zqt (i:=7) (v:=?v7r36) ?y7r36 ?r7r36
        case y7r36 =>
          intro u hSu;go_simp;(try with_reducible rfl)
        (try simp only [zq,Act.put]);refine zqt (i:=8) (v:=?v8r37) ?y8r37 ?r8r37
        case y8r37 =>
          intro u hSu;go_simp;(try with_reducible rfl)
        (try simp only [zq,Act.put]);refine zqt (i:=9) (v:=?v9r38) ?y9r38 ?r9r38
        case y9r38 =>
          intro u hSu;go_simp;(try with_reducible rfl)
        (try simp only [zq,Act.put]);refine zqt (i:=10) (v:=?v10r39) ?y10r39 ?r10r39
        case y10r39 =>
          intro u hSu;go_simp;(try with_reducible rfl)
        (try simp only [zq,Act.put]);refine zqt (i:=11) (v:=?v11r310) ?y11r310 ?r11r310
        case y11r310 =>
          intro u hSu;(try dsimp only at hSu);have e1:=E1.out;have e2:=E2.out;go_simp;(try with_reducible rfl)
        (try simp only [zq,Act.put]);refine zqt (i:=12) (v:=?v12r311) ?y12r311 ?r12r311
        case y12r311 =>
          intro u hSu;go_simp;(try with_reducible rfl)
        (try simp only [zq,Act.put]);refine zqt (i:=13) (v:=?v13r312) ?y13r312 ?r13r312
        case y13r312 =>
          intro u hSu;(try dsimp only at hSu);have q0 : u.cell? ⟨w13.heap.size + 1 + 1 + 1 + 1 + 1 + 1 + 1 + 1 + 1 + 1 + 1 + 1 + 1 + 1,i * 2 + 1,none⟩ = some (.slice (some ⟨gN,0,none⟩) 2 2):=(hSu.cell (p:=⟨w13.heap.size + 1 + 1 + 1 + 1 + 1 + 1 + 1 + 1 + 1 + 1 + 1 + 1 + 1 + 1,i * 2 + 1,none⟩) HG.out).trans CJ.out;go_simp;(try with_reducible rfl)
        (try simp only [zq,Act.put]);refine wpAnyH_ready (rs:=[3,18]) (by kernel_rfl) (by simp) ?_;refine AllReadyH.cons (o:=_) rfl (fun K hK => ?_) (AllReadyH.cons (o:=_) rfl (fun K hK => ?_) AllReadyH.nil)
        · skip
          go_simp;(go_wp2_with fail);refine hK.out _ _ (al_th0 hHeld) (fun hHeld2 => ?_);clear hK K;(try simp only [zq,Act.put]);generalize hwa : World.alloc _ _ = uyr313 at hHeld2 ⊢;have b9 : Below w30.heap.size w30 uyr313:=by rw [← hwa]; exact al_one _ _
          obtain ⟨gR,egR⟩ : ∃ z,z = w30.heap.size:=⟨_,rfl⟩;have hR : Row uyr313 (some ⟨gR,0,none⟩) 3 3 [a,b,c]:=by rw [← hwa,egR]; exact row_lit _ [a,b,c] (by show 3 ≤ 65536; decide)
          have hgl : gR < uyr313.heap.size:=by rw [egR,← hwa]; simp
          clear b9 hwa hHeld;have hHeld:=hHeld2;clear hHeld2;refine wpAnyH_ready (rs:=[4,18]) (by kernel_rfl) (by simp) ?_;refine AllReadyH.cons (o:=_) rfl (fun K hK => ?_) (AllReadyH.cons (o:=_) rfl (fun K hK => ?_) AllReadyH.nil)
          · skip
            go_simp;rw [← egR]
            first | refine (stocked_any _ _ _ _ _ hR).mono ?_ | refine (stocked_any _ _ _ _ _ (hR.keep (drew_bel0 _))).mono ?_
            rintro e uyr314 ⟨jS,rfl,hv,hs,hda,b9⟩;have HS:=zqh hs;clear hs hR;clear hda;have hN : Below w30.heap.size w30 uyr314:=by first | exact below_then hHeld b9 | exact below_then (below_then hHeld (drew_bel0 _)) b9
            (go_wp2_with fail);clear hHeld b9;refine hK.out _ _ hN (fun hHeld => ?_);clear hK K hN;(try simp only [zq,Act.put]);refine wpAnyH_ready (rs:=[14,18]) (by kernel_rfl) (by simp) ?_;refine AllReadyH.cons (o:=_) rfl (fun K hK => ?_) (AllReadyH.cons (o:=_) rfl (fun K hK => ?_) AllReadyH.nil)
            · skip
              go_simp;have hlt:=hHeld.size
              first | refine (run_sn (riteQ i) _ R1.out R2.out (by decide) _ _ _ (T30.out.keep hHeld) hv HS.out R4.out R3.out (NS.out _ hHeld)).mono ?_ | refine (run_sn (riteQ i) _ R1.out R2.out (by decide) _ _ _ (T30.out.keep (below_then hHeld (drew_bel0 _))) (hv.keep (drew_bel0 _)) HS.out R4.out R3.out (NS.out _ (below_then hHeld (drew_bel0 _)))).mono ?_
              rintro e uyr315 ⟨j2,rfl,hv2,_,hl2,b9⟩;clear hlt;clear hl2 hv;have hN : Below w30.heap.size w30 uyr315:=by first | exact below_then hHeld b9 | exact below_then (below_then hHeld (drew_bel0 _)) b9
              (go_wp2_with fail);clear hHeld b9;refine hK.out _ _ hN (fun hHeld => ?_);clear hK K hN;(try simp only [zq,Act.put]);refine zqt (i:=15) (v:=?v15r316) ?y15r316 ?r15r316
              case y15r316 =>
                intro u hSu;go_simp;(try with_reducible rfl)
              (try simp only [zq,Act.put]);refine zqt (i:=16) (v:=?v16r317) ?y16r317 ?r16r317
              case y16r317 =>
                intro u hSu;go_simp;(try with_reducible rfl)
              (try simp only [zq,Act.put]);refine zqt (i:=17) (v:=?v17r318) ?y17r318 ?r17r318
              case y17r318 =>
                intro u hSu;go_simp;(try with_reducible rfl)
              (try simp only [zq,Act.put]);refine zqr 18 fun K hK => ?_
              go_simp
              skip
              refine hK.out _ _ (al_th0 hHeld) (fun hHeld2 => ?_);clear hK K;(try simp only [zq,Act.put]);generalize hwa : World.alloc _ _ = uyr319 at hHeld2 ⊢;have b9 : Below uyr315.heap.size uyr315 uyr319:=by rw [← hwa]; exact al_one _ _
              obtain ⟨zb,ezb⟩ : ∃ z,z = uyr315.heap.size:=⟨_,rfl⟩;have hz : VBox uyr319 zb vm0:=by rw [← hwa,ezb]; exact vbox_zero _
              have hge : w30.heap.size ≤ zb:=by rw [ezb]; exact hHeld.size
              have HB9:=zqh b9;have EZ:=zqh ezb;clear b9;clear hwa hHeld;have hHeld:=hHeld2;clear hHeld2;refine zqr 19 fun K hK => ?_
              refine step_vst rfl _ _ rfl zb vm0 j2 (by first | rfl | (rw [ezb]; rfl)) rfl hz ?_;have kb2:=below_setRow hHeld hge (vmC j2);have hr2:=vrow hz j2;refine hK.out _ _ kb2 (fun hHeld2 => ?_);clear hK K;(try simp only [zq,Act.put]);refine zqt (i:=20) (v:=?v20r320) ?y20r320 ?r20r320
              case y20r320 =>
                intro u hSu;go_simp;(try with_reducible rfl)
              (try simp only [zq,Act.put]);refine wpAnyH_done (by kernel_rfl) ?_ _;refine NoPanic.normal ?_;(go_wp2_with fail);go_meet;refine ⟨zb,j2,(by first | rfl | (rw [ezb])),rfl,zqh ⟨hge,hr2,?_,kb2⟩⟩;exact IsVm.ex (X:=fun g => g = zb) (B:=0) hv2 hv2 (MLoc.refl _ _) (Ex.row (X:=fun g => g = zb) (b:=zb) ((Ex.refl _ _).below HB9.out) rfl _) fun g hg e => by subst e; rw [EZ.out] at hg; exact absurd hg (Nat.lt_irrefl _)
            · skip
              go_simp
              skip
              refine hK.out _ _ (al_th0 hHeld) (fun hHeld2 => ?_);clear hK K;(try simp only [zq,Act.put]);generalize hwa : World.alloc _ _ = uyr321 at hHeld2 ⊢;have b9 : Below uyr314.heap.size uyr314 uyr321:=by rw [← hwa]; exact al_one _ _
              obtain ⟨zb,ezb⟩ : ∃ z,z = uyr314.heap.size:=⟨_,rfl⟩;have hz : VBox uyr321 zb vm0:=by rw [← hwa,ezb]; exact vbox_zero _
              have hge : w30.heap.size ≤ zb:=by rw [ezb]; exact hHeld.size
              have hFS : Free jS zb:=free_of hv (by rw [ezb]; exact Nat.le_refl _);have hv1:=hv.keep b9;clear hv;have hv:=hv1;clear hv1;clear b9;clear hwa hHeld;have hHeld:=hHeld2;clear hHeld2;refine zqr 14 fun K hK => ?_
              go_simp;have hlt:=hHeld.size
              first | refine (run_sn (riteQ i) _ R1.out R2.out (by decide) _ _ _ (T30.out.keep hHeld) hv HS.out R4.out R3.out (NS.out _ hHeld)).mono ?_ | refine (run_sn (riteQ i) _ R1.out R2.out (by decide) _ _ _ (T30.out.keep (below_then hHeld (drew_bel0 _))) (hv.keep (drew_bel0 _)) HS.out R4.out R3.out (NS.out _ (below_then hHeld (drew_bel0 _)))).mono ?_
              rintro e uyr322 ⟨j2,rfl,hv2,_,hl2,b9⟩;clear hlt;have hFJ : Free j2 zb:=free_loc hl2 hFS hz.lt;have hz1 : VBox uyr322 zb vm0:=by first | exact hz.keep b9 | exact VBox.keep (w:=World.drew uyr321) hz b9
              clear hz;have hz:=hz1;clear hz1;clear hl2 hv;have hN : Below w30.heap.size w30 uyr322:=by first | exact below_then hHeld b9 | exact below_then (below_then hHeld (drew_bel0 _)) b9
              (go_wp2_with fail);clear hHeld b9;refine hK.out _ _ hN (fun hHeld => ?_);clear hK K hN;(try simp only [zq,Act.put]);refine zqt (i:=15) (v:=?v15r323) ?y15r323 ?r15r323
              case y15r323 =>
                intro u hSu;go_simp;(try with_reducible rfl)
              (try simp only [zq,Act.put]);refine zqt (i:=16) (v:=?v16r324) ?y16r324 ?r16r324
              case y16r324 =>
                intro u hSu;go_simp;(try with_reducible rfl)
              (try simp only [zq,Act.put]);refine zqt (i:=17) (v:=?v17r325) ?y17r325 ?r17r325
              case y17r325 =>
                intro u hSu;go_simp;(try with_reducible rfl)
              (try simp only [zq,Act.put]);refine zqr 19 fun K hK => ?_
              refine step_vst rfl _ _ rfl zb vm0 j2 (by first | rfl | (rw [ezb]; rfl)) rfl hz ?_;have kb2:=below_setRow hHeld hge (vmC j2);have hr2:=vrow hz j2;refine hK.out _ _ kb2 (fun hHeld2 => ?_);clear hK K;(try simp only [zq,Act.put]);refine zqt (i:=20) (v:=?v20r326) ?y20r326 ?r20r326
              case y20r326 =>
                intro u hSu;go_simp;(try with_reducible rfl)
              (try simp only [zq,Act.put]);refine wpAnyH_done (by kernel_rfl) ?_ _;refine NoPanic.normal ?_;(go_wp2_with fail);go_meet;refine ⟨zb,j2,(by first | rfl | (rw [ezb])),rfl,zqh ⟨hge,hr2,?_,kb2⟩⟩;exact isvm_free hv2 hFJ (Ex.row (X:=fun g => g = zb) (b:=zb) (Ex.refl _ _) rfl _) hz
          · skip
            go_simp
            skip
            refine hK.out _ _ (al_th0 hHeld) (fun hHeld2 => ?_);clear hK K;(try simp only [zq,Act.put]);generalize hwa : World.alloc _ _ = uyr327 at hHeld2 ⊢;have b9 : Below uyr313.heap.size uyr313 uyr327:=by rw [← hwa]; exact al_one _ _
            obtain ⟨zb,ezb⟩ : ∃ z,z = uyr313.heap.size:=⟨_,rfl⟩;have hz : VBox uyr327 zb vm0:=by rw [← hwa,ezb]; exact vbox_zero _
            have hge : w30.heap.size ≤ zb:=by rw [ezb]; exact hHeld.size
            have hR1:=hR.keep b9;clear hR;have hR:=hR1;clear hR1;have hne : gR ≠ zb:=by rw [ezb]; omega
            clear b9;clear hwa hHeld;have hHeld:=hHeld2;clear hHeld2;refine zqr 4 fun K hK => ?_
            go_simp;rw [← egR]
            first | refine (stocked_any _ _ _ _ _ hR).mono ?_ | refine (stocked_any _ _ _ _ _ (hR.keep (drew_bel0 _))).mono ?_
            rintro e uyr328 ⟨jS,rfl,hv,hs,hda,b9⟩;have HS:=zqh hs;clear hs hR;have hz1 : VBox uyr328 zb vm0:=by first | exact hz.keep b9 | exact VBox.keep (w:=World.drew uyr327) hz b9
            clear hz;have hz:=hz1;clear hz1;have hFS : Free jS zb:=free_stocked hv hz (fun q hq => by rw [hda] at hq; cases hq; exact hne);clear hda;have hN : Below w30.heap.size w30 uyr328:=by first | exact below_then hHeld b9 | exact below_then (below_then hHeld (drew_bel0 _)) b9
            (go_wp2_with fail);clear hHeld b9;refine hK.out _ _ hN (fun hHeld => ?_);clear hK K hN;(try simp only [zq,Act.put]);refine zqr 14 fun K hK => ?_
            go_simp;have hlt:=hHeld.size
            first | refine (run_sn (riteQ i) _ R1.out R2.out (by decide) _ _ _ (T30.out.keep hHeld) hv HS.out R4.out R3.out (NS.out _ hHeld)).mono ?_ | refine (run_sn (riteQ i) _ R1.out R2.out (by decide) _ _ _ (T30.out.keep (below_then hHeld (drew_bel0 _))) (hv.keep (drew_bel0 _)) HS.out R4.out R3.out (NS.out _ (below_then hHeld (drew_bel0 _)))).mono ?_
            rintro e uyr329 ⟨j2,rfl,hv2,_,hl2,b9⟩;clear hlt;have hFJ : Free j2 zb:=free_loc hl2 hFS hz.lt;have hz1 : VBox uyr329 zb vm0:=by first | exact hz.keep b9 | exact VBox.keep (w:=World.drew uyr328) hz b9
            clear hz;have hz:=hz1;clear hz1;clear hl2 hv;have hN : Below w30.heap.size w30 uyr329:=by first | exact below_then hHeld b9 | exact below_then (below_then hHeld (drew_bel0 _)) b9
            (go_wp2_with fail);clear hHeld b9;refine hK.out _ _ hN (fun hHeld => ?_);clear hK K hN;(try simp only [zq,Act.put]);refine zqt (i:=15) (v:=?v15r330) ?y15r330 ?r15r330
            case y15r330 =>
              intro u hSu;go_simp;(try with_reducible rfl)
            (try simp only [zq,Act.put]);refine zqt (i:=16) (v:=?v16r331) ?y16r331 ?r16r331
            case y16r331 =>
              intro u hSu;go_simp;(try with_reducible rfl)
            (try simp only [zq,Act.put]);refine zqt (i:=17) (v:=?v17r332) ?y17r332 ?r17r332
            case y17r332 =>
              intro u hSu;go_simp;(try with_reducible rfl)
            (try simp only [zq,Act.put]);refine zqr 19 fun K hK => ?_
            refine step_vst rfl _ _ rfl zb vm0 j2 (by first | rfl | (rw [ezb]; rfl)) rfl hz ?_;have kb2:=below_setRow hHeld hge (vmC j2);have hr2:=vrow hz j2;refine hK.out _ _ kb2 (fun hHeld2 => ?_);clear hK K;(try simp only [zq,Act.put]);refine zqt (i:=20) (v:=?v20r333) ?y20r333 ?r20r333
            case y20r333 =>
              intro u hSu;go_simp;(try with_reducible rfl)
            (try simp only [zq,Act.put]);refine wpAnyH_done (by kernel_rfl) ?_ _;refine NoPanic.normal ?_;(go_wp2_with fail);go_meet;refine ⟨zb,j2,(by first | rfl | (rw [ezb])),rfl,zqh ⟨hge,hr2,?_,kb2⟩⟩;exact isvm_free hv2 hFJ (Ex.row (X:=fun g => g = zb) (b:=zb) (Ex.refl _ _) rfl _) hz
        · skip
          go_simp
          skip
          refine hK.out _ _ (al_th0 hHeld) (fun hHeld2 => ?_);clear hK K;(try simp only [zq,Act.put]);generalize hwa : World.alloc _ _ = uyr334 at hHeld2 ⊢;have b9 : Below w30.heap.size w30 uyr334:=by rw [← hwa]; exact al_one _ _
          obtain ⟨zb,ezb⟩ : ∃ z,z = w30.heap.size:=⟨_,rfl⟩;have hz : VBox uyr334 zb vm0:=by rw [← hwa,ezb]; exact vbox_zero _
          have hge : w30.heap.size ≤ zb:=by rw [ezb]; exact hHeld.size
          clear b9;clear hwa hHeld;have hHeld:=hHeld2;clear hHeld2;refine zqr 3 fun K hK => ?_
          go_simp;(go_wp2_with fail);refine hK.out _ _ (al_th0 hHeld) (fun hHeld2 => ?_);clear hK K;(try simp only [zq,Act.put]);generalize hwa : World.alloc _ _ = uyr335 at hHeld2 ⊢;have b9 : Below uyr334.heap.size uyr334 uyr335:=by rw [← hwa]; exact al_one _ _
          obtain ⟨gR,egR⟩ : ∃ z,z = uyr334.heap.size:=⟨_,rfl⟩;have hR : Row uyr335 (some ⟨gR,0,none⟩) 3 3 [a,b,c]:=by rw [← hwa,egR]; exact row_lit _ [a,b,c] (by show 3 ≤ 65536; decide)
          have hgl : gR < uyr335.heap.size:=by rw [egR,← hwa]; simp
          have hne : gR ≠ zb:=by have:=hz.lt; omega
          have hz1 : VBox uyr335 zb vm0:=by first | exact hz.keep b9 | exact VBox.keep (w:=World.drew uyr334) hz b9
          clear hz;have hz:=hz1;clear hz1;clear b9 hwa hHeld;have hHeld:=hHeld2;clear hHeld2;refine zqr 4 fun K hK => ?_
          go_simp;rw [← egR]
          first | refine (stocked_any _ _ _ _ _ hR).mono ?_ | refine (stocked_any _ _ _ _ _ (hR.keep (drew_bel0 _))).mono ?_
          rintro e uyr336 ⟨jS,rfl,hv,hs,hda,b9⟩;have HS:=zqh hs;clear hs hR;have hz1 : VBox uyr336 zb vm0:=by first | exact hz.keep b9 | exact VBox.keep (w:=World.drew uyr335) hz b9
          clear hz;have hz:=hz1;clear hz1;have hFS : Free jS zb:=free_stocked hv hz (fun q hq => by rw [hda] at hq; cases hq; exact hne);clear hda;have hN : Below w30.heap.size w30 uyr336:=by first | exact below_then hHeld b9 | exact below_then (below_then hHeld (drew_bel0 _)) b9
          (go_wp2_with fail);clear hHeld b9;refine hK.out _ _ hN (fun hHeld => ?_);clear hK K hN;(try simp only [zq,Act.put]);refine zqr 14 fun K hK => ?_
          go_simp;have hlt:=hHeld.size
          first | refine (run_sn (riteQ i) _ R1.out R2.out (by decide) _ _ _ (T30.out.keep hHeld) hv HS.out R4.out R3.out (NS.out _ hHeld)).mono ?_ | refine (run_sn (riteQ i) _ R1.out R2.out (by decide) _ _ _ (T30.out.keep (below_then hHeld (drew_bel0 _))) (hv.keep (drew_bel0 _)) HS.out R4.out R3.out (NS.out _ (below_then hHeld (drew_bel0 _)))).mono ?_
          rintro e uyr337 ⟨j2,rfl,hv2,_,hl2,b9⟩;clear hlt;have hFJ : Free j2 zb:=free_loc hl2 hFS hz.lt;have hz1 : VBox uyr337 zb vm0:=by first | exact hz.keep b9 | exact VBox.keep (w:=World.drew uyr336) hz b9
          clear hz;have hz:=hz1;clear hz1;clear hl2 hv;have hN : Below w30.heap.size w30 uyr337:=by first | exact below_then hHeld b9 | exact below_then (below_then hHeld (drew_bel0 _)) b9
          (go_wp2_with fail);clear hHeld b9;refine hK.out _ _ hN (fun hHeld => ?_);clear hK K hN;(try simp only [zq,Act.put]);refine zqt (i:=15) (v:=?v15r338) ?y15r338 ?r15r338
          case y15r338 =>
            intro u hSu;go_simp;(try with_reducible rfl)
          (try simp only [zq,Act.put]);refine zqt (i:=16) (v:=?v16r339) ?y16r339 ?r16r339
          case y16r339 =>
            intro u hSu;go_simp;(try with_reducible rfl)
          (try simp only [zq,Act.put]);refine zqt (i:=17) (v:=?v17r340) ?y17r340 ?r17r340
          case y17r340 =>
            intro u hSu;go_simp;(try with_reducible rfl)
          (try simp only [zq,Act.put]);refine zqr 19 fun K hK => ?_
          refine step_vst rfl _ _ rfl zb vm0 j2 (by first | rfl | (rw [ezb]; rfl)) rfl hz ?_;have kb2:=below_setRow hHeld hge (vmC j2);have hr2:=vrow hz j2;refine hK.out _ _ kb2 (fun hHeld2 => ?_);clear hK K;(try simp only [zq,Act.put]);refine zqt (i:=20) (v:=?v20r341) ?y20r341 ?r20r341
          case y20r341 =>
            intro u hSu;go_simp;(try with_reducible rfl)
          (try simp only [zq,Act.put]);refine wpAnyH_done (by kernel_rfl) ?_ _;refine NoPanic.normal ?_;(go_wp2_with fail);go_meet;refine ⟨zb,j2,(by first | rfl | (rw [ezb])),rfl,zqh ⟨hge,hr2,?_,kb2⟩⟩;exact isvm_free hv2 hFJ (Ex.row (X:=fun g => g = zb) (b:=zb) (Ex.refl _ _) rfl _) hz
      case rest =>
        obtain ⟨bQ,kQ,rfl,rfl,HD⟩:=hcut;obtain ⟨w31,rfl⟩ : ∃ x,x = wc:=⟨_,rfl⟩;have bb:=HD.out.bel;have hp:=HD.out.box;have hv:=HD.out.vm;clear HD;have T31:=zqh (T30.out.keep bb);have TR31:=zqh (TR30.out.keep bb);have X31:=zqh (X30.out.keep bb);have MX31:=zqh (MX30.out.keep bb);have P31:=zqh (P30.out.keep bb);have MP31:=zqh (MP30.out.keep bb);have B31:=zqh (below_then B30.out bb);have Q31:=zqh hp;have MQ31:=zqh hv;clear bb T30 TR30 X30 MX30 P30 MP30 B30;clear hp hv;clear CJ HG NS;clear TR31;clear L1 L2 L3 L4 R1 R2 R3 R4 E1 E2 hj hj1 hj2 hj3;obtain ⟨pX0,pX1,pX2,pX3,pX4,pX5,pX6,pX7,pX8,pX9,pX10,pX11,pX12,pX13,pX14,pX15,pX16,pX17,pX18,pX19,pX20,pX21,pX22⟩:=X31.out.use;clear pX0 pX1 pX2 pX3 pX4 pX5 pX6 pX7 pX9 pX10 pX11 pX12 pX13 pX14 pX15 pX16 pX17 pX18 pX19 pX20 pX21 pX22;(go_wp2_with fail);generalize hwa : World.alloc _ _ = w32;have kb : Below w31.heap.size w31 w32:=by rw [← hwa]; exact al_one _ _
        have hx : Row w32 (some ⟨w31.heap.size,0,none⟩) 3 3 [a,b,c]:=by rw [← hwa]; exact row_lit _ [a,b,c] (by show 3 ≤ 65536; decide)
        clear hwa;have T32:=zqh (T31.out.keep kb);have X32:=zqh (X31.out.keep kb);have MX32:=zqh (MX31.out.keep kb);have P32:=zqh (P31.out.keep kb);have MP32:=zqh (MP31.out.keep kb);have Q32:=zqh (Q31.out.keep kb);have MQ32:=zqh (MQ31.out.keep kb);have B32:=zqh (below_then B31.out kb);have RX32:=zqh hx;clear kb T31 X31 MX31 P31 MP31 Q31 MQ31 B31;clear hx;refine (same_true _ _ _ _ _ _ [a,b,c] [a,b,c] _ (by have:=MX32.out.d.1; rw [← this]; show 3 ≤ 50000; decide) (by show 3 ≤ 50000; decide) (zqh MX32.out.d) (zqh RX32.out) (zqh rfl)).mono ?_;rintro e w33 ⟨rfl,bb⟩;clear pX8;have T33:=zqh (T32.out.keep bb);have X33:=zqh (X32.out.keep bb);have MX33:=zqh (MX32.out.keep bb);have P33:=zqh (P32.out.keep bb);have MP33:=zqh (MP32.out.keep bb);have Q33:=zqh (Q32.out.keep bb);have MQ33:=zqh (MQ32.out.keep bb);have RX33:=zqh (RX32.out.keep bb);have B33:=zqh (below_then B32.out bb);clear bb T32 X32 MX32 P32 MP32 Q32 MQ32 RX32 B32;obtain ⟨pP0,pP1,pP2,pP3,pP4,pP5,pP6,pP7,pP8,pP9,pP10,pP11,pP12,pP13,pP14,pP15,pP16,pP17,pP18,pP19,pP20,pP21,pP22⟩:=P33.out.use;clear pP0 pP1 pP2 pP3 pP4 pP5 pP6 pP7 pP9 pP10 pP11 pP12 pP13 pP14 pP15 pP16 pP17 pP18 pP19 pP20 pP21 pP22;obtain ⟨pQ0,pQ1,pQ2,pQ3,pQ4,pQ5,pQ6,pQ7,pQ8,pQ9,pQ10,pQ11,pQ12,pQ13,pQ14,pQ15,pQ16,pQ17,pQ18,pQ19,pQ20,pQ21,pQ22⟩:=Q33.out.use;clear pQ0 pQ1 pQ2 pQ3 pQ4 pQ5 pQ6 pQ7 pQ9 pQ10 pQ11 pQ12 pQ13 pQ14 pQ15 pQ16 pQ17 pQ18 pQ19 pQ20 pQ21 pQ22;(go_wp2_with fail)
        refine (same_true _ _ _ _ _ _ l l _ (by have:=MP33.out.d.1; rw [← this]; have:=HL9.out; show l.length ≤ 50000; omega) (by have:=MQ33.out.d.1; rw [← this]; have:=HL9.out; show l.length ≤ 50000; omega) (zqh MP33.out.d) (zqh MQ33.out.d) (zqh rfl)).mono ?_;rintro e w34 ⟨rfl,bb⟩;clear pP8 pQ8;have T34:=zqh (T33.out.keep bb);have X34:=zqh (X33.out.keep bb);have MX34:=zqh (MX33.out.keep bb);have P34:=zqh (P33.out.keep bb);have MP34:=zqh (MP33.out.keep bb);have Q34:=zqh (Q33.out.keep bb);have MQ34:=zqh (MQ33.out.keep bb);have RX34:=zqh (RX33.out.keep bb);have B34:=zqh (below_then B33.out bb);clear bb T33 X33 MX33 P33 MP33 Q33 MQ33 RX33 B33;(go_wp2_with fail);go_ret;exact ⟨rfl,B34.out⟩
end Go.Proofs.YtlgnijhemfkflaaGreatDoor
