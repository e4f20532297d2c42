/- Part 1. -/
import Derived.Test.YtcmldhjicjmmgaaGreatDoorXkZero
import Derived.Laws.CopyOwn
import Derived.RowKit
import Derived.IntWalk
import Derived.Laws.Bits64
import Derived.Test.YtcmldhjicjmmgaaGreatDoorRows
import Derived.WalkKit
import Derived.WalkSpells
import Derived.WalkLawsBesides
import Derived.Deep.QuietTactic
import Derived.BigQuiet
import Derived.Lib.Hide
import Derived.LoopN
import Derived.Laws.OwnMore
import Derived.OwnWalk
import Derived.Lib.SmallJoins
set_option linter.unusedVariables false
set_option linter.unusedSimpArgs false
set_option maxRecDepth 100000
set_option maxHeartbeats 4000000

namespace Go.Proofs.YtcmldhjicjmmgaaGreatDoor
open Go.RowKit


abbrev Pt:=Int × List UInt8
abbrev PM:=List UInt8 × List Pt
def okB (L : Nat) (p n : Int) : Bool:=decide (n = 0 ∨ 0 < n ∧ 0 ≤ p ∧ p ≤ (L : Int) - n)
theorem okB_iff (L : Nat) (p n : Int) : okB L p n = true ↔ (n = 0 ∨ 0 < n ∧ 0 ≤ p ∧ p ≤ (L : Int) - n):=by unfold okB; simp
theorem okB_no (L : Nat) (p n : Int) : okB L p n = false ↔ ¬ (n = 0 ∨ 0 < n ∧ 0 ≤ p ∧ p ≤ (L : Int) - n):=by unfold okB; rw [decide_eq_false_iff_not]
def codeF (b : Bool) : Int:=if b then 0 else -9
def textF (m : PM) (p n : Int) : List UInt8:=if okB m.1.length p n then (m.1.drop p.toNat).take n.toNat else []
theorem textF_yes {m : PM} {p n : Int} (h : okB m.1.length p n = true) : textF m p n = (m.1.drop p.toNat).take n.toNat:=by unfold textF; rw [if_pos h]
theorem textF_no {m : PM} {p n : Int} (h : okB m.1.length p n = false) : textF m p n = []:=by unfold textF; rw [if_neg (by simp [h])]
theorem textF_len {m : PM} {p n : Int} (h : okB m.1.length p n = true) : (textF m p n).length = n.toNat:=by
  rw [textF_yes h];rw [okB_iff] at h;simp;omega
def layF (row : List UInt8) (p : Int) (b : List UInt8) : List UInt8:=splice row p.toNat b
theorem layF_none (row : List UInt8) (p : Int) : layF row p [] = row:=by simp [layF,splice]
theorem layF_len {row b : List UInt8} {p : Int} (h : okB row.length p b.length = true) : (layF row p b).length = row.length:=by
  rw [okB_iff] at h
  rcases h with h | h
  · have : b = []:=List.eq_nil_of_length_eq_zero (by omega)
    subst this;rw [layF_none]
  · unfold layF
    exact length_splice _ _ _ (by omega)
def writeF (m : PM) (p : Int) (b : List UInt8) : PM:=if okB m.1.length p b.length = true ∧ b ≠ [] then (layF m.1 p b,m.2 ++ [(p,textF m p b.length)]) else m
theorem writeF_yes {m : PM} {p : Int} {b : List UInt8} (h : okB m.1.length p b.length = true) (hb : b ≠ []) : writeF m p b = (layF m.1 p b,m.2 ++ [(p,textF m p b.length)]):=by unfold writeF; rw [if_pos ⟨h,hb⟩]
theorem writeF_no {m : PM} {p : Int} {b : List UInt8} (h : okB m.1.length p b.length = false) : writeF m p b = m:=by unfold writeF; rw [if_neg (by simp [h])]
theorem writeF_nil {m : PM} {p : Int} : writeF m p [] = m:=by unfold writeF; rw [if_neg (by simp)]
def lowB (c : Int) : UInt8:=UInt8.ofNat (c % 256).toNat
def fillF (m : PM) (p n c : Int) : PM:=if okB m.1.length p n = true then writeF m p (List.replicate n.toNat (lowB c)) else m
def moveF (m : PM) (f t n : Int) : PM:=if okB m.1.length f n = true then writeF m t (textF m f n) else m
def moveC (m : PM) (f t n : Int) : Int:=if okB m.1.length f n = true then codeF (okB m.1.length t n) else -9
def undo (ps : List Pt) (row : List UInt8) : List UInt8:=ps.foldr (fun q r => layF r q.1 q.2) row
def backOk (m : PM) (k : Int) : Bool:=decide (0 ≤ k ∧ k ≤ (m.2.length : Int))
def backF (m : PM) (k : Int) : PM:=if backOk m k = true then (undo (m.2.drop k.toNat) m.1,m.2.take k.toNat) else m
def backC (m : PM) (k : Int) : Int:=if backOk m k = true then 0 else -24
def rightP (L : Nat) (q : Pt) : Bool:=okB L q.1 q.2.length
def rightB (m : PM) : Bool:=decide (m.1.length ≤ 65536) && decide (m.1.length % 8 = 0) && m.2.all (rightP m.1.length)
def cellC (L : Nat) (p : Int) : Int:=if okB L p 8 = true then (if p % 8 = 0 then 0 else -23) else -9
def newOk (n : Int) : Bool:=decide (8 ≤ n ∧ n ≤ 65536 ∧ n % 8 = 0)


def un (n : Int) : Nat:=(IntKind.u64.wrap n).toNat
theorem un_cast (n : Int) : IntKind.u64.wrap n = (un n : Int):=by unfold un; rw [IntKind.wrap_u64]; omega
theorem un_mod (n : Int) : (un n : Int) = n % 18446744073709551616:=by rw [← un_cast,IntKind.wrap_u64]
theorem un_lt (n : Int) : un n < 18446744073709551616:=by have:=un_mod n; omega
def leans (r d : Int) : Bool:=r != 0 && (decide (r < 0) != decide (d < 0))
def dq (a b : Int) : Int:=if b = 0 then 0 else if leans (a.tmod b) b then wrap64 (wrap64 (a.tdiv b) - 1) else wrap64 (a.tdiv b)
def dr (a b : Int) : Int:=if b = 0 then 0 else if leans (a.tmod b) b then a.tmod b + b else a.tmod b
def dc (b : Int) : Int:=if b = 0 then -10 else 0
def umLo (a b : Int) : Int:=wrap64 ((un a * un b % 18446744073709551616 : Nat) : Int)
def umHi (a b : Int) : Int:=wrap64 ((un a * un b / 18446744073709551616 : Nat) : Int)
def smHi (a b : Int) : Int:=a * b / 18446744073709551616
def uok (hi d : Int) : Bool:=decide (un hi < un d)
def uq (lo hi d : Int) : Int:=if uok hi d then wrap64 (((un hi * 18446744073709551616 + un lo) / un d : Nat) : Int) else 0
def ur (lo hi d : Int) : Int:=if uok hi d then wrap64 (((un hi * 18446744073709551616 + un lo) % un d : Nat) : Int) else 0
def uc (hi d : Int) : Int:=if d = 0 then -10 else if uok hi d then 0 else -11
def pr (lo hi : Int) : Int:=(un lo : Int) + 18446744073709551616 * hi
def sok (lo hi d : Int) : Bool:=d != 0 && decide (-9223372036854775808 ≤ (pr lo hi).tdiv d) && decide ((pr lo hi).tdiv d ≤ 9223372036854775807)
def sq (lo hi d : Int) : Int:=if sok lo hi d then (pr lo hi).tdiv d else 0
def sr (lo hi d : Int) : Int:=if sok lo hi d then (pr lo hi).tmod d else 0
def sc (lo hi d : Int) : Int:=if d = 0 then -10 else if sok lo hi d then 0 else -11
def fok (lo hi d : Int) : Bool:=sok lo hi d && !(leans (sr lo hi d) d && sq lo hi d == -9223372036854775808)
def fq (lo hi d : Int) : Int:=if fok lo hi d then (if leans (sr lo hi d) d then sq lo hi d - 1 else sq lo hi d) else 0
def fr (lo hi d : Int) : Int:=if fok lo hi d then (if leans (sr lo hi d) d then sr lo hi d + d else sr lo hi d) else 0
def fc (lo hi d : Int) : Int:=if d = 0 then -10 else if fok lo hi d then 0 else -11
def cellR (n : Int) : Prop:=-9223372036854775808 ≤ n ∧ n ≤ 9223372036854775807
theorem wrap_in {n : Int} (h : cellR n) : wrap64 n = n:=IntWalk.wrap64_in n h


theorem tfacts (a b : Int) (h : b ≠ 0) : b * a.tdiv b + a.tmod b = a ∧ (a.tmod b).natAbs < b.natAbs ∧ (0 ≤ a → 0 ≤ a.tmod b) ∧ (a ≤ 0 → a.tmod b ≤ 0):=by
  refine ⟨Int.mul_tdiv_add_tmod a b,?_,fun h0 => Int.tmod_nonneg b h0,fun h0 => ?_⟩
  · rw [Int.natAbs_tmod]
    exact Nat.mod_lt _ (by omega)
  · have:=Int.tmod_nonneg b (a:=-a) (by omega)
    rw [Int.neg_tmod] at this;omega
theorem leans_true {r d : Int} (h : leans r d = true) : (r < 0 ∧ 0 ≤ d) ∨ (0 < r ∧ d < 0):=by
  unfold leans at h
  by_cases h1 : r < 0 <;> by_cases h2 : d < 0 <;> simp [h1,h2] at h <;> omega
theorem leans_sum (a b : Int) (h : b ≠ 0) (hb : cellR b) (hl : leans (a.tmod b) b = true) : cellR (a.tmod b + b):=by
  obtain ⟨_,h1,_,_⟩:=tfacts a b h;have:=leans_true hl;unfold cellR at *; omega


theorem ret_int {k : IntKind} {a b : Int} (h : a = b) : Ending.returned (.int k a) = .returned (.int k b):=by rw [h]
theorem ret_bool {a b : Bool} (h : a = b) : Ending.returned (.bool a) = .returned (.bool b):=by rw [h]


def byteOf (n i : Nat) : Nat:=n / 256 ^ i % 256
theorem byteOf_lt (n i : Nat) : byteOf n i < 256:=Nat.mod_lt _ (by omega)
def eight (x0 x1 x2 x3 x4 x5 x6 x7 : Nat) : Nat:=x0 + x1 * 256 + x2 * 65536 + x3 * 16777216 + x4 * 4294967296 + x5 * 1099511627776 + x6 * 281474976710656 + x7 * 72057594037927936
theorem or_step (a b k : Nat) (ha : a < 2 ^ k) (hs : b * 2 ^ k + a < 18446744073709551616) : bits BinOp.or IntKind.u64 (a : Int) ((b : Int) * ((2 ^ k : Nat) : Int)) = ((a + b * 2 ^ k : Nat) : Int):=by
  rw [← Int.natCast_mul,bits_or_u64_nat _ _ (by omega) (by omega)];have:=Nat.two_pow_add_eq_or_of_lt ha b;rw [Nat.or_comm,Nat.mul_comm,← this,Nat.mul_comm,Nat.add_comm]
theorem gather_core (x0 x1 x2 x3 x4 x5 x6 x7 N1 N2 N3 N4 N5 N6 N7 : Nat) (w : World) (h0 : x0 < 256) (h1 : x1 < 256) (h2 : x2 < 256) (h3 : x3 < 256) (h4 : x4 < 256) (h5 : x5 < 256) (h6 : x6 < 256) (h7 : x7 < 256)
    (e0 : bits BinOp.or IntKind.u64 0 (x0 : Int) = (x0 : Int)) (e1 : bits BinOp.or IntKind.u64 (x0 : Int) ((x1 : Int) * 256) = (N1 : Int)) (e2 : bits BinOp.or IntKind.u64 (N1 : Int) ((x2 : Int) * 65536) = (N2 : Int)) (e3 : bits BinOp.or IntKind.u64 (N2 : Int) ((x3 : Int) * 16777216) = (N3 : Int)) (e4 : bits BinOp.or IntKind.u64 (N3 : Int) ((x4 : Int) * 4294967296) = (N4 : Int)) (e5 : bits BinOp.or IntKind.u64 (N4 : Int) ((x5 : Int) * 1099511627776) = (N5 : Int)) (e6 : bits BinOp.or IntKind.u64 (N5 : Int) ((x6 : Int) * 281474976710656) = (N6 : Int)) (e7 : bits BinOp.or IntKind.u64 (N6 : Int) ((x7 : Int) * 72057594037927936) = (N7 : Int)) :
    Calls Tryz.prog 73 #[.agg #[.int .u8 (x0 : Int),.int .u8 (x1 : Int),.int .u8 (x2 : Int),.int .u8 (x3 : Int),.int .u8 (x4 : Int),.int .u8 (x5 : Int),.int .u8 (x6 : Int),.int .u8 (x7 : Int)]] w fun e w' => e = .returned (.int .u64 (N7 : Int)) ∧ Below w.heap.size w w':=by
  go_enter Tryz.func73,Tryz.ntmps73;go_wp2;refine wp_loop_rounds 9 ?_
  iterate 9 (rw [rounds_succ]; go_wp2)
  go_ret;exact ⟨rfl,(Below.refl _ _).alloc (Nat.le_refl _) _⟩
theorem gather_any (x0 x1 x2 x3 x4 x5 x6 x7 : Nat) (w : World) (h0 : x0 < 256) (h1 : x1 < 256) (h2 : x2 < 256) (h3 : x3 < 256) (h4 : x4 < 256) (h5 : x5 < 256) (h6 : x6 < 256) (h7 : x7 < 256) :
    Calls Tryz.prog 73 #[.agg #[.int .u8 (x0 : Int),.int .u8 (x1 : Int),.int .u8 (x2 : Int),.int .u8 (x3 : Int),.int .u8 (x4 : Int),.int .u8 (x5 : Int),.int .u8 (x6 : Int),.int .u8 (x7 : Int)]] w fun e w' => e = .returned (.int .u64 (eight x0 x1 x2 x3 x4 x5 x6 x7 : Int)) ∧ Below w.heap.size w w':=by
  refine gather_core x0 x1 x2 x3 x4 x5 x6 x7 (x0 + x1 * 256) (x0 + x1 * 256 + x2 * 65536) (x0 + x1 * 256 + x2 * 65536 + x3 * 16777216) (x0 + x1 * 256 + x2 * 65536 + x3 * 16777216 + x4 * 4294967296) (x0 + x1 * 256 + x2 * 65536 + x3 * 16777216 + x4 * 4294967296 + x5 * 1099511627776) (x0 + x1 * 256 + x2 * 65536 + x3 * 16777216 + x4 * 4294967296 + x5 * 1099511627776 + x6 * 281474976710656) (eight x0 x1 x2 x3 x4 x5 x6 x7) w h0 h1 h2 h3 h4 h5 h6 h7 ?_ ?_ ?_ ?_ ?_ ?_ ?_ ?_
  · exact (bits_or_u64_nat 0 x0 (by omega) (by omega)).trans (by simp)
  · exact or_step (x0) x1 8 (by simp only [Nat.reducePow]; omega) (by simp only [Nat.reducePow]; omega)
  · exact or_step (x0 + x1 * 256) x2 16 (by simp only [Nat.reducePow]; omega) (by simp only [Nat.reducePow]; omega)
  · exact or_step (x0 + x1 * 256 + x2 * 65536) x3 24 (by simp only [Nat.reducePow]; omega) (by simp only [Nat.reducePow]; omega)
  · exact or_step (x0 + x1 * 256 + x2 * 65536 + x3 * 16777216) x4 32 (by simp only [Nat.reducePow]; omega) (by simp only [Nat.reducePow]; omega)
  · exact or_step (x0 + x1 * 256 + x2 * 65536 + x3 * 16777216 + x4 * 4294967296) x5 40 (by simp only [Nat.reducePow]; omega) (by simp only [Nat.reducePow]; omega)
  · exact or_step (x0 + x1 * 256 + x2 * 65536 + x3 * 16777216 + x4 * 4294967296 + x5 * 1099511627776) x6 48 (by simp only [Nat.reducePow]; omega) (by simp only [Nat.reducePow]; omega)
  · exact or_step (x0 + x1 * 256 + x2 * 65536 + x3 * 16777216 + x4 * 4294967296 + x5 * 1099511627776 + x6 * 281474976710656) x7 56 (by simp only [Nat.reducePow]; omega) (by simp only [Nat.reducePow]; omega)


theorem cells_at {w : World} {g : Nat} {cs : List Value} {t : TypeId} (h : w.heap[g]? = some (.cells cs.toArray t (0,0))) (j : Nat) (v : Value) (hv : cs[j]? = some v) : w.cell? ((⟨g,0,none⟩ : Addr).add j) = some v:=by
  unfold World.cell? Addr.add
  by_cases h0 : j = 0
  · subst h0; simp [h,hv]
  · simp [h0,h,hv]
theorem two_new (w1 : World) (a b : Array Value) (s t : TypeId) : ((w1.alloc (.cells a s)).alloc (.cells b t)).heap[w1.heap.size + 1]? = some (.cells b t (0,0)) ∧ ((w1.alloc (.cells a s)).alloc (.cells b t)).heap[w1.heap.size]? = some (.cells a s (0,0)):=by
  constructor
  · show ((w1.heap.push (.cells a s)).push (.cells b t))[w1.heap.size + 1]? = _
    rw [Array.getElem?_push,if_pos (by simp)]
  · show ((w1.heap.push (.cells a s)).push (.cells b t))[w1.heap.size]? = _
    simp [Array.getElem?_push]


theorem add_block (x : Addr) (j : Nat) : (x.add j).block = x.block:=by unfold Addr.add; split <;> rfl
theorem src_new {w : World} {x : Addr} (hx : x.block < w.heap.size) (o : Obj) {cs : List Value} (h : ∀ j v,cs[j]? = some v → w.cell? (x.add j) = some v) : ∀ j v,cs[j]? = some v → (w.alloc o).cell? (x.add j) = some v:=by
  intro j v hv;have hb : Below w.heap.size w (w.alloc o):=(Below.refl _ _).alloc (Nat.le_refl _) _;rw [hb.cell (p:=x.add j) (by rw [add_block]; exact hx)];exact h j v hv
theorem one_new (w : World) (c : Array Value) (t : TypeId) : (w.alloc (.cells c t)).heap[w.heap.size]? = some (.cells c t (0,0)):=(MapKept.heap_alloc w _).1
theorem get_yes (x : Addr) (cap : Nat) (x0 x1 x2 x3 x4 x5 x6 x7 : Nat) (w : World) (hx : x.block < w.heap.size) (h0 : x0 < 256) (h1 : x1 < 256) (h2 : x2 < 256) (h3 : x3 < 256) (h4 : x4 < 256) (h5 : x5 < 256) (h6 : x6 < 256) (h7 : x7 < 256) (hsrc : Hid (∀ j v,[.int .u8 (x0 : Int),.int .u8 (x1 : Int),.int .u8 (x2 : Int),.int .u8 (x3 : Int),.int .u8 (x4 : Int),.int .u8 (x5 : Int),.int .u8 (x6 : Int),.int .u8 (x7 : Int)][j]? = some v → w.cell? (x.add j) = some v)) :
    Calls Tryz.prog 57 #[.slice (some x) 8 cap] w fun e w' => e = .returned (.tuple #[.int .i64 (wrap64 (eight x0 x1 x2 x3 x4 x5 x6 x7 : Int)),.int .i64 0]) ∧ Below w.heap.size w w':=by
  go_enter Tryz.func57,Tryz.ntmps57;(go_wp2_with (with_reducible refine wpList_copy_splice rfl (.tmp 8) (.tmp 9) 26 26 rfl 5 Tryz.underlying26 ?c0 (some ⟨w.heap.size,0,none⟩) (some x) 8 8 8 cap rfl rfl w.heap.size 0 [.int .u8 0,.int .u8 0,.int .u8 0,.int .u8 0,.int .u8 0,.int .u8 0,.int .u8 0,.int .u8 0] 155 ?c1 [.int .u8 (x0 : Int),.int .u8 (x1 : Int),.int .u8 (x2 : Int),.int .u8 (x3 : Int),.int .u8 (x4 : Int),.int .u8 (x5 : Int),.int .u8 (x6 : Int),.int .u8 (x7 : Int)] rfl (fun _ => ⟨rfl,x,rfl,src_new hx _ hsrc.out⟩) ?c3 ?c4 w.heap.size w ?c5 ?c6 ?_))
  case c0 => kernel_rfl
  case c1 => exact one_new _ _ _
  case c3 => simp
  case c4 => simp [Value.oneCell']
  case c5 => exact (Below.refl _ _).alloc (Nat.le_refl _) _
  case c6 => omega
  intro w2 hg hb2;have hg' : w2.heap[w.heap.size]? = some (.cells [.int .u8 (x0 : Int),.int .u8 (x1 : Int),.int .u8 (x2 : Int),.int .u8 (x3 : Int),.int .u8 (x4 : Int),.int .u8 (x5 : Int),.int .u8 (x6 : Int),.int .u8 (x7 : Int)].toArray 155 (0,0)):=hg.out;have k0 : w2.cell? ⟨w.heap.size,0,none⟩ = some (.int .u8 (x0 : Int)):=cells_at hg' 0 _ rfl;have k1 : w2.cell? ⟨w.heap.size,1,none⟩ = some (.int .u8 (x1 : Int)):=cells_at hg' 1 _ rfl;have k2 : w2.cell? ⟨w.heap.size,2,none⟩ = some (.int .u8 (x2 : Int)):=cells_at hg' 2 _ rfl;have k3 : w2.cell? ⟨w.heap.size,3,none⟩ = some (.int .u8 (x3 : Int)):=cells_at hg' 3 _ rfl;have k4 : w2.cell? ⟨w.heap.size,4,none⟩ = some (.int .u8 (x4 : Int)):=cells_at hg' 4 _ rfl;have k5 : w2.cell? ⟨w.heap.size,5,none⟩ = some (.int .u8 (x5 : Int)):=cells_at hg' 5 _ rfl;have k6 : w2.cell? ⟨w.heap.size,6,none⟩ = some (.int .u8 (x6 : Int)):=cells_at hg' 6 _ rfl;have k7 : w2.cell? ⟨w.heap.size,7,none⟩ = some (.int .u8 (x7 : Int)):=cells_at hg' 7 _ rfl;have HZ:=zqh hb2.size;clear hg hg';(go_wp2_with (go_at_call 73; refine (gather_any x0 x1 x2 x3 x4 x5 x6 x7 _ h0 h1 h2 h3 h4 h5 h6 h7).mono ?_; rintro e w3 ⟨rfl,hb3⟩));go_ret2;exact ⟨rfl,hb2.trans (hb3.mono HZ.out)⟩


theorem below_then {w w1 w2 : World} (h : Below w.heap.size w w1) (k : Below w1.heap.size w1 w2) : Below w.heap.size w w2:=h.trans (k.mono h.size)
def u8s (l : List UInt8) : List Value:=l.map fun b => .int .u8 (b.toNat : Int)
theorem u8s_len (l : List UInt8) : (u8s l).length = l.length:=by simp [u8s]
theorem u8s_one (l : List UInt8) : ∀ v ∈ u8s l,v.oneCell' = true:=by
  intro v hv;unfold u8s at hv;rw [List.mem_map] at hv;obtain ⟨b,_,rfl⟩:=hv;rfl
theorem u8s_at {l : List UInt8} {j : Nat} (h : j < l.length) : (u8s l)[j]? = some (.int .u8 ((l[j]).toNat : Int)):=by simp [u8s,h]
theorem u8s_app (a b : List UInt8) : u8s (a ++ b) = u8s a ++ u8s b:=by simp [u8s]
def Lies (w : World) (A : Option Addr) (xs : List Value) : Prop :=
  xs = [] ∨ ∃ g o,A = some ⟨g,o,none⟩ ∧ g < w.heap.size ∧ ∀ j v,xs[j]? = some v → w.cell? ⟨g,o + j,none⟩ = some v
theorem add_at (g o j : Nat) : (⟨g,o,none⟩ : Addr).add j = ⟨g,o + j,none⟩:=by unfold Addr.add; split <;> simp_all
theorem Lies.keep {w w' : World} {A : Option Addr} {xs : List Value} (h : Lies w A xs) (b : Below w.heap.size w w') : Lies w' A xs:=by
  rcases h with h | ⟨g,o,hA,hg,hc⟩
  · exact .inl h
  · exact .inr ⟨g,o,hA,Nat.lt_of_lt_of_le hg b.size,fun j v hv => (b.cell (p:=⟨g,o + j,none⟩) hg).trans (hc j v hv)⟩
theorem lies_block {w : World} {g : Nat} {xs : List Value} {t : TypeId} (h : w.heap[g]? = some (.cells xs.toArray t (0,0))) : Lies w (some ⟨g,0,none⟩) xs:=by
  refine .inr ⟨g,0,rfl,(Array.getElem?_eq_some_iff.1 h).1,fun j v hv => ?_⟩;rw [Nat.zero_add];simp [World.cell?,h,hv]
def Byt (w : World) (v : Value) (l : List UInt8) : Prop:=∃ A c,v = .slice A l.length c ∧ l.length ≤ c ∧ c ≤ maxLen ∧ Lies w A (u8s l)
theorem Byt.keep {w w' : World} {v : Value} {l : List UInt8} (h : Byt w v l) (b : Below w.heap.size w w') : Byt w' v l:=by
  obtain ⟨A,c,h1,h2,h3,h4⟩:=h;exact ⟨A,c,h1,h2,h3,h4.keep b⟩
theorem byt_block {w : World} {g : Nat} {l : List UInt8} {t : TypeId} (h : w.heap[g]? = some (.cells (u8s l).toArray t (0,0))) (hl : l.length ≤ 65536) : Byt w (.slice (some ⟨g,0,none⟩) l.length l.length) l :=
  ⟨_,_,rfl,Nat.le_refl _,by unfold maxLen; omega,lies_block h⟩
theorem byt_nil (w : World) : Byt w (.slice none 0 0) []:=⟨none,0,rfl,Nat.le_refl _,Nat.zero_le _,.inl rfl⟩
abbrev Qt:=Int × Value
def pc (qs : List Qt) : List Value:=qs.flatMap fun q => [.int .i64 q.1,q.2]
theorem pc_cons (q : Qt) (qs : List Qt) : pc (q :: qs) = .int .i64 q.1 :: q.2 :: pc qs:=rfl
theorem pc_app (a b : List Qt) : pc (a ++ b) = pc a ++ pc b:=by simp [pc]
theorem pc_len (qs : List Qt) : (pc qs).length = 2 * qs.length:=by
  induction qs with
  | nil => rfl
  | cons q qs ih => rw [pc_cons]; simp [ih]; omega
theorem pc_at (qs : List Qt) : ∀ i q,qs[i]? = some q → (pc qs)[2 * i]? = some (.int .i64 q.1) ∧ (pc qs)[2 * i + 1]? = some q.2:=by
  induction qs with
  | nil => intro i q h; simp at h
  | cons x qs ih =>
    intro i q h;rw [pc_cons];cases i with
    | zero => simp at h; subst h; exact ⟨rfl,rfl⟩
    | succ i =>
      simp at h;have:=ih i q h;rw [show 2 * (i + 1) = 2 * i + 1 + 1 by omega];simpa using this
def Tells (w : World) (qs : List Qt) (ps : List Pt) : Prop:=qs.length = ps.length ∧ ∀ (i : Nat) (q : Qt) (p : Pt),qs[i]? = some q → ps[i]? = some p → q.1 = p.1 ∧ Byt w q.2 p.2
theorem Tells.keep {w w' : World} {qs : List Qt} {ps : List Pt} (h : Tells w qs ps) (b : Below w.heap.size w w') : Tells w' qs ps :=
  ⟨h.1,fun i q p hq hp => ⟨(h.2 i q p hq hp).1,(h.2 i q p hq hp).2.keep b⟩⟩
theorem Tells.at_ {w : World} {qs : List Qt} {ps : List Pt} (h : Tells w qs ps) {i : Nat} {p : Pt} (hp : ps[i]? = some p) : ∃ v,qs[i]? = some (p.1,v) ∧ Byt w v p.2:=by
  have hi : i < qs.length:=by rw [h.1]; exact (List.getElem?_eq_some_iff.1 hp).1
  have hq : qs[i]? = some qs[i]:=List.getElem?_eq_getElem hi;obtain ⟨e,hb⟩:=h.2 i _ p hq hp;refine ⟨qs[i].2,?_,hb⟩;rw [hq,← e]
theorem Tells.snoc {w : World} {qs : List Qt} {ps : List Pt} (h : Tells w qs ps) {p : Pt} {v : Value} (hv : Byt w v p.2) : Tells w (qs ++ [(p.1,v)]) (ps ++ [p]):=by
  refine ⟨by simp [h.1],fun i q r hq hr => ?_⟩
  by_cases hi : i < qs.length
  · rw [List.getElem?_append_left hi] at hq
    rw [List.getElem?_append_left (by rw [← h.1]; exact hi)] at hr;exact h.2 i q r hq hr
  · have hi' : i = qs.length:=by have:=(List.getElem?_eq_some_iff.1 hq).1; simp at this; omega
    subst hi';rw [List.getElem?_append_right (Nat.le_refl _)] at hq;rw [h.1,List.getElem?_append_right (Nat.le_refl _)] at hr;simp at hq hr;subst hq hr;exact ⟨rfl,hv⟩
theorem Tells.take {w : World} {qs : List Qt} {ps : List Pt} (h : Tells w qs ps) (k : Nat) : Tells w (qs.take k) (ps.take k):=by
  refine ⟨by simp [h.1],fun i q r hq hr => ?_⟩;rw [List.getElem?_take] at hq hr
  split at hq
  · rename_i hk
    rw [if_pos hk] at hr;exact h.2 i q r hq hr
  · cases hq
theorem Tells.drop {w : World} {qs : List Qt} {ps : List Pt} (h : Tells w qs ps) (k : Nat) : Tells w (qs.drop k) (ps.drop k):=by
  refine ⟨by simp [h.1],fun i q r hq hr => ?_⟩;rw [List.getElem?_drop] at hq hr;exact h.2 _ q r hq hr
theorem tells_nil (w : World) : Tells w [] []:=⟨rfl,fun i q p h => by simp at h⟩
def Pats (w : World) (v : Value) (ps : List Pt) : Prop:=∃ A c qs,v = .slice A ps.length c ∧ ps.length ≤ c ∧ c ≤ maxLen ∧ Lies w A (pc qs) ∧ Tells w qs ps
theorem Pats.keep {w w' : World} {v : Value} {ps : List Pt} (h : Pats w v ps) (b : Below w.heap.size w w') : Pats w' v ps:=by
  obtain ⟨A,c,qs,h1,h2,h3,h4,h5⟩:=h;exact ⟨A,c,qs,h1,h2,h3,h4.keep b,h5.keep b⟩
theorem pats_nil (w : World) : Pats w (.slice none 0 0) []:=⟨none,0,[],rfl,Nat.le_refl _,Nat.zero_le _,.inl rfl,tells_nil w⟩
def IsMem (w : World) (v : Value) (m : PM) : Prop:=∃ b o,v = .agg #[b,o] ∧ Byt w b m.1 ∧ Pats w o m.2
theorem IsMem.keep {w w' : World} {v : Value} {m : PM} (h : IsMem w v m) (b : Below w.heap.size w w') : IsMem w' v m:=by
  obtain ⟨x,y,h1,h2,h3⟩:=h;exact ⟨x,y,h1,h2.keep b,h3.keep b⟩
theorem IsMem.parts {w : World} {v : Value} {m : PM} (h : IsMem w v m) : ∃ A c P d,v = .agg #[.slice A m.1.length c,.slice P m.2.length d] ∧ Byt w (.slice A m.1.length c) m.1 ∧ Pats w (.slice P m.2.length d) m.2:=by
  obtain ⟨x,y,rfl,hb,hp⟩:=h;have hb':=hb;have hp':=hp;obtain ⟨A,c,rfl,_⟩:=hb;obtain ⟨P,d,qs,rfl,_⟩:=hp;exact ⟨A,c,P,d,rfl,hb',hp'⟩
structure RowSet (g : Nat) (w w' : World) : Prop where
  os : w'.os = w.os
  tape : w'.tape = w.tape
  output : w'.output = w.output
  size : w'.heap.size = w.heap.size
  other : ∀ k,k ≠ g → w'.heap[k]? = w.heap[k]?
theorem rowSet_setRow (g : Nat) (w : World) (cs : Array Value) : RowSet g w (w.setRow g cs):=⟨rfl,rfl,rfl,by simp [World.setRow],fun k hk => setRow_other w g k cs hk⟩
theorem RowSet.refl (g : Nat) (w : World) : RowSet g w w:=⟨rfl,rfl,rfl,rfl,fun _ _ => rfl⟩
theorem RowSet.trans {g : Nat} {a b c : World} (h : RowSet g a b) (k : RowSet g b c) : RowSet g a c :=
  ⟨k.os.trans h.os,k.tape.trans h.tape,k.output.trans h.output,k.size.trans h.size,fun i hi => (k.other i hi).trans (h.other i hi)⟩
theorem RowSet.below {g B : Nat} {w w' : World} (h : RowSet g w w') (hB : B ≤ g) : Below B w w':=⟨h.os,h.tape,h.output,by rw [h.size]; exact Nat.le_refl _,fun k hk => h.other k (by omega)⟩
theorem RowSet.cell {g : Nat} {w w' : World} (h : RowSet g w w') {b o : Nat} (hb : b ≠ g) : w'.cell? ⟨b,o,none⟩ = w.cell? ⟨b,o,none⟩:=World.cell?_of_block (h.other b hb)

theorem there_any (A P : Option Addr) (L c k d : Nat) (p n : Int) (w : World) (hL : L ≤ 9223372036854775807) (hn : n ≤ 9223372036854775807) :
    Calls Tryz.prog 72 #[.agg #[.slice A L c,.slice P k d],.int .i64 p,.int .i64 n] w fun e w' => e = .returned (.bool (okB L p n)) ∧ Below w.heap.size w w':=by
  by_cases h0 : n = 0
  · have H : Hid (okB L p n = true):=(okB_iff _ _ _).2 (.inl h0)
    subst h0;go_enter Tryz.func72,Tryz.ntmps72;go_wp2;go_ret;exact ⟨ret_bool H.out.symm,(Below.refl _ _).alloc (Nat.le_refl _) _⟩
  · have h1 : (n == 0) = false:=by simp [h0]
    by_cases h2 : 0 < n ∧ 0 ≤ p ∧ p ≤ (L : Int) - n
    · have H : Hid (okB L p n = true):=(okB_iff _ _ _).2 (.inr h2)
      obtain ⟨h3,h4,h5⟩:=h2;clear h0;go_enter Tryz.func72,Tryz.ntmps72;go_wp2;go_ret;exact ⟨ret_bool H.out.symm,(Below.refl _ _).alloc (Nat.le_refl _) _⟩
    · have H : Hid (okB L p n = false):=(okB_no _ _ _).2 (by omega)
      by_cases h3 : 0 < n
      · by_cases h4 : 0 ≤ p
        · have h5 : decide (p ≤ (L : Int) - n) = false:=by simp; omega
          clear h0 h2;go_enter Tryz.func72,Tryz.ntmps72;go_wp2;go_ret;exact ⟨ret_bool H.out.symm,(Below.refl _ _).alloc (Nat.le_refl _) _⟩
        · have h4 : decide (0 ≤ p) = false:=by simp; omega
          clear h0 h2;go_enter Tryz.func72,Tryz.ntmps72;go_wp2;go_ret;exact ⟨ret_bool H.out.symm,(Below.refl _ _).alloc (Nat.le_refl _) _⟩
      · have h3 : decide (0 < n) = false:=by simp; omega
        clear h0 h2;go_enter Tryz.func72,Tryz.ntmps72;go_wp2;go_ret;exact ⟨ret_bool H.out.symm,(Below.refl _ _).alloc (Nat.le_refl _) _⟩
theorem info_u8 : (Tryz.prog.info? 5).map (fun i => (i.zero,i.size,i.bytes)) = some (some (.int .u8 0),1,1):=by kernel_rfl
theorem hpos_of {w : World} {A : Option Addr} {xs : List Value} (h : Lies w A xs) {w' : World} (b : Below w.heap.size w w') (hx : 0 < xs.length) : ∃ ad,A = some ad ∧ ∀ j v,xs[j]? = some v → w'.cell? (ad.add j) = some v:=by
  rcases h.keep b with rfl | ⟨g,o,rfl,_,hc⟩
  · simp at hx
  · exact ⟨_,rfl,fun j v hv => by rw [add_at]; exact hc j v hv⟩


theorem box_cells {w w1 : World} {x y : Value} {t : TypeId} (b : Below (w.alloc (.cells #[x,y] t)).heap.size (w.alloc (.cells #[x,y] t)) w1) : w1.cell? ⟨w.heap.size,0,none⟩ = some x ∧ w1.cell? ⟨w.heap.size,1,none⟩ = some y:=by
  constructor
  · rw [b.cell (p:=⟨w.heap.size,0,none⟩) (by simp),World.cell?_alloc_new]; rfl
  · rw [b.cell (p:=⟨w.heap.size,1,none⟩) (by simp),World.cell?_alloc_new]; rfl
theorem box_below {w w1 : World} {o : Obj} (b : Below (w.alloc o).heap.size (w.alloc o) w1) : Below w.heap.size w w1:=((Below.refl _ w).alloc (Nat.le_refl _) o).trans (b.mono (by simp))
theorem codeF_yes : codeF true = 0:=rfl
theorem codeF_no : codeF false = -9:=rfl
theorem rthere_any (A P : Option Addr) (L c k d : Nat) (p n : Int) (w : World) (hL : L ≤ 9223372036854775807) (hn : n ≤ 9223372036854775807) :
    Calls Tryz.prog 36 #[.agg #[.slice A L c,.slice P k d],.int .i64 p,.int .i64 n] w fun e w' => e = .returned (.bool (okB L p n)) ∧ Below w.heap.size w w':=by
  by_cases h0 : n = 0
  · have H : Hid (okB L p n = true):=(okB_iff _ _ _).2 (.inl h0)
    subst h0;go_enter Tryz.func36,Tryz.ntmps36;go_wp2;go_ret;exact ⟨ret_bool H.out.symm,(Below.refl _ _).alloc (Nat.le_refl _) _⟩
  · have h1 : (n == 0) = false:=by simp [h0]
    by_cases h2 : 0 < n ∧ 0 ≤ p ∧ p ≤ (L : Int) - n
    · have H : Hid (okB L p n = true):=(okB_iff _ _ _).2 (.inr h2)
      obtain ⟨h3,h4,h5⟩:=h2;have h6 : n ≤ (L : Int):=by omega
      clear h0;go_enter Tryz.func36,Tryz.ntmps36;go_wp2;go_ret;exact ⟨ret_bool H.out.symm,(Below.refl _ _).alloc (Nat.le_refl _) _⟩
    · have H : Hid (okB L p n = false):=(okB_no _ _ _).2 (by omega)
      by_cases h3 : 0 < n
      · by_cases h4 : 0 ≤ p
        · have h5 : decide (p ≤ (L : Int) - n) = false:=by simp; omega
          by_cases h6 : n ≤ (L : Int)
          · clear h0 h2
            go_enter Tryz.func36,Tryz.ntmps36;go_wp2;go_ret;exact ⟨ret_bool H.out.symm,(Below.refl _ _).alloc (Nat.le_refl _) _⟩
          · have h7 : decide (n ≤ (L : Int)) = false:=by simp; omega
            clear h0 h2 h6;go_enter Tryz.func36,Tryz.ntmps36;go_wp2;go_ret;exact ⟨ret_bool H.out.symm,(Below.refl _ _).alloc (Nat.le_refl _) _⟩
        · have h4 : decide (0 ≤ p) = false:=by simp; omega
          clear h0 h2;go_enter Tryz.func36,Tryz.ntmps36;go_wp2;go_ret;exact ⟨ret_bool H.out.symm,(Below.refl _ _).alloc (Nat.le_refl _) _⟩
      · have h3 : decide (0 < n) = false:=by simp; omega
        clear h0 h2;go_enter Tryz.func36,Tryz.ntmps36;go_wp2;go_ret;exact ⟨ret_bool H.out.symm,(Below.refl _ _).alloc (Nat.le_refl _) _⟩


theorem info_patch : (Tryz.prog.info? 86).map (fun i => (i.zero,i.size,i.bytes)) = some (some (.agg #[.int .i64 0,.slice none 0 0]),2,32):=by kernel_rfl
theorem pc_one {w : World} {qs : List Qt} {ps : List Pt} (h : Tells w qs ps) : ∀ v ∈ pc qs,v.oneCell' = true:=by
  intro v hv;unfold pc at hv;rw [List.mem_flatMap] at hv;obtain ⟨q,hq,hv⟩:=hv;obtain ⟨i,hi,rfl⟩:=List.mem_iff_getElem.1 hq;have hp : i < ps.length:=by rw [← h.1]; exact hi
  obtain ⟨_,A,c,e,_⟩:=h.2 i _ _ (List.getElem?_eq_getElem hi) (List.getElem?_eq_getElem hp);simp at hv
  rcases hv with rfl | rfl
  · rfl
  · rw [e]; rfl
end Go.Proofs.YtcmldhjicjmmgaaGreatDoor
