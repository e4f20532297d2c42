/- Part 5. -/
import Derived.Shelf.Small.Bits
import Derived.Shelf.Strconv.Itoa0
import Derived.Shelf.Spec.BitsCarry
import Derived.Lib.BitFns
import Derived.Shelf.SlicesE.Reverse
import Derived.Test.YtcmldhjicjmmgaaGreatDoorXkAD
import Derived.Lib.Mul64
set_option linter.unusedVariables false
set_option linter.unusedSimpArgs false
set_option maxRecDepth 100000
set_option maxHeartbeats 4000000

namespace Go.Proofs.YtcmldhjicjmmgaaGreatDoor
open Go.RowKit


def pSame (o : Bool) (l : List UInt8) (o' : Bool) (l' : List UInt8) : Bool:=decide (o = o' ∧ l = l')
def pOpen (o : Bool) (l : List UInt8) : Bool:=decide (o = true ∧ l.length < 130)
theorem pOpen_iff (o : Bool) (l : List UInt8) : pOpen o l = true ↔ (o = true ∧ l.length < 130):=by unfold pOpen; simp
theorem pOpen_no (o : Bool) (l : List UInt8) : pOpen o l = false ↔ ¬ (o = true ∧ l.length < 130):=by unfold pOpen; rw [decide_eq_false_iff_not]
def byteI (c : Int) : UInt8:=UInt8.ofNat (c % 256).toNat
def holdL (o : Bool) (l : List UInt8) (c : Int) : List UInt8:=if pOpen o l = true then l ++ [byteI c] else l
def holdC (o : Bool) (l : List UInt8) : Int:=if pOpen o l = true then 0 else -17
def pairN (lo hi : Int) : Nat:=un hi * 18446744073709551616 + un lo
def lowI (P : Nat) : Int:=wrap64 ((P % 18446744073709551616 : Nat) : Int)
def highI (P : Nat) : Int:=wrap64 ((P / 18446744073709551616 : Nat) : Int)
def digOK (o : Bool) (l : List UInt8) (b : Int) : Bool:=baseB b && pOpen o l
def digU (lo hi b : Int) : UInt8:=UInt8.ofNat (digN (pairN lo hi % b.toNat))
def digL (o : Bool) (l : List UInt8) (lo hi b : Int) : List UInt8:=if digOK o l b = true then l ++ [digU lo hi b] else l
def digLo (o : Bool) (l : List UInt8) (lo hi b : Int) : Int:=if digOK o l b = true then lowI (pairN lo hi / b.toNat) else lo
def digHi (o : Bool) (l : List UInt8) (lo hi b : Int) : Int:=if digOK o l b = true then highI (pairN lo hi / b.toNat) else hi
def digC (o : Bool) (l : List UInt8) (b : Int) : Int:=if baseB b = true then holdC o l else -24
def figs (lo hi b : Int) : List UInt8:=usF b.toNat (pairN lo hi)
def allOK (o : Bool) (l : List UInt8) (lo hi b : Int) : Bool:=baseB b && decide (o = true ∧ l.length + (figs lo hi b).length ≤ 130)
def allL (o : Bool) (l : List UInt8) (lo hi b : Int) : List UInt8:=if allOK o l lo hi b = true then l ++ (figs lo hi b).reverse else l
def allC (o : Bool) (l : List UInt8) (lo hi b : Int) : Int:=if baseB b = true then (if allOK o l lo hi b = true then 0 else -17) else -24
def signL (o : Bool) (l : List UInt8) (n : Int) : List UInt8:=if n < 0 then holdL o l 45 else l
def signC (o : Bool) (l : List UInt8) (n : Int) : Int:=if n < 0 then holdC o l else 0
def endL (o : Bool) (l : List UInt8) : List UInt8:=if o = true then l.reverse else []
def endC (o : Bool) : Int:=if o = true then 0 else -17
theorem pairN_lt (lo hi : Int) : pairN lo hi < 340282366920938463463374607431768211456:=by
  unfold pairN;have:=un_lt lo;have:=un_lt hi;omega
theorem un_low (P : Nat) : un (lowI P) = P % 18446744073709551616:=by
  have:=un_mod (lowI P);unfold lowI wrap64 at *;omega
theorem un_high {P : Nat} (h : P < 340282366920938463463374607431768211456) : un (highI P) = P / 18446744073709551616:=by
  have:=un_mod (highI P);unfold highI wrap64 at *;omega
theorem pair_back {P : Nat} (h : P < 340282366920938463463374607431768211456) : pairN (lowI P) (highI P) = P:=by
  unfold pairN;rw [un_low,un_high h];omega
end Go.Proofs.YtcmldhjicjmmgaaGreatDoor

namespace Go.Proofs
open Go.Shelf
def Tryz.lays264_ren : Go.Shelf.Ren:=⟨fun | 264 => 221 | n => n,fun | 53 => 87 | 46 => 286 | n => n,fun | n => n⟩
theorem Tryz.lays264 : Go.Proofs.Lays.n264 Tryz.prog Tryz.lays264_ren:={
  mixed:=by kernel_rfl
  f264:=Tryz.func221.trans (congrArg some (by kernel_rfl))
  t46:=Tryz.underlying286
  a46:=Tryz.isAgg286
  z46:=Tryz.sizeOf286
  v46:=Tryz.zeroValue286
  t53:=Tryz.underlying87
  a53:=Tryz.isAgg87
  z53:=Tryz.sizeOf87
  v53:=Tryz.zeroValue87 }
open Go.RowKit Go.Lib in
theorem Tryz.bits_Mul64 (x y : Nat) (hx : x < 18446744073709551616) (hy : y < 18446744073709551616) (w : World) :
    Calls Tryz.prog 221 #[.int .u64 x,.int .u64 y] w fun e w' => e = .returned (.tuple #[.int .u64 ((x * y / 18446744073709551616 : Nat) : Int),.int .u64 ((x * y % 18446744073709551616 : Nat) : Int)]) ∧ w' = w:=Any.bits_Mul64 Tryz.lays264 x y hx hy w
end Go.Proofs

namespace Go.Proofs.YtcmldhjicjmmgaaGreatDoor.Plain
theorem digit_test (B v1 v0 u n q r : Nat) (h : q * v1 + r = u) : B * r + n < q * v0 ↔ u * B + n < q * (v1 * B + v0):=by
  subst h;have e1 : q * (v1 * B + v0) = q * v1 * B + q * v0:=by rw [Nat.mul_add,Nat.mul_assoc]
  have e2 : (q * v1 + r) * B = q * v1 * B + r * B:=Nat.add_mul _ _ _;have e3 : B * r = r * B:=Nat.mul_comm _ _;rw [e1,e2,e3];omega
theorem digit_lt (B v u n : Nat) (hu : u < v) (hn : n < B) : (u * B + n) / v < B:=by
  refine Nat.div_lt_of_lt_mul ?_;have : (u + 1) * B ≤ v * B:=Nat.mul_le_mul_right _ hu;rw [Nat.add_mul] at this;omega
end Go.Proofs.YtcmldhjicjmmgaaGreatDoor.Plain

namespace Go.Proofs.YtcmldhjicjmmgaaGreatDoor
open Go.RowKit


structure DigitOf (u v v1 v0 n d : Nat) : Prop where
  parts : v1 * 4294967296 + v0 = v
  lt : u < v
  n_lt : n < 4294967296
  v0_lt : v0 < 4294967296
  v1_ge : 2147483648 ≤ v1
  v1_lt : v1 < 4294967296
  digit : (u * 4294967296 + n) / v = d
theorem DigitOf.over {u v v1 v0 n d : Nat} (D : DigitOf u v v1 v0 n d) (k j : Nat) (h : k * v1 + j = u) (hd : d < k) :
    (k < 4294967296 → 4294967296 * (j : Int) + (n : Int) < (k : Int) * (v0 : Int)) ∧ (k < 4294967296 → (k : Int) * (v0 : Int) ≤ 18446744073709551615):=by
  have hv:=D.parts;have h1:=D.v1_ge;have h0:=D.v0_lt;have ht:=Plain.digit_test 4294967296 v1 v0 u n k j h;refine ⟨fun _ => ?_,fun hk => ?_⟩
  · have : u * 4294967296 + n < k * v:=by
      rw [← Nat.div_lt_iff_lt_mul (by omega),D.digit]; exact hd
    rw [hv] at ht;have:=ht.2 this;rw [← Int.natCast_mul];omega
  · have : k * v0 ≤ 4294967295 * 4294967295:=Nat.mul_le_mul (by omega) (by omega)
    rw [← Int.natCast_mul];omega
theorem DigitOf.lt_base {u v v1 v0 n d : Nat} (D : DigitOf u v v1 v0 n d) : d < 4294967296:=by
  have:=Plain.digit_lt 4294967296 v u n D.lt D.n_lt;rw [D.digit] at this;exact this
theorem DigitOf.under {u v v1 v0 n d : Nat} (D : DigitOf u v v1 v0 n d) (j : Nat) (h : d * v1 + j = u) :
    (d : Int) * (v0 : Int) ≤ 4294967296 * (j : Int) + (n : Int) ∧ (d : Int) * (v0 : Int) ≤ 18446744073709551615:=by
  have hv:=D.parts;have h0:=D.v0_lt;have h1:=D.v1_ge;have hb:=D.lt_base;have ht:=Plain.digit_test 4294967296 v1 v0 u n d j h;rw [hv] at ht;have : d * v ≤ u * 4294967296 + n:=(Nat.le_div_iff_mul_le (by omega)).1 (by rw [D.digit]; omega);have h2 : d * v0 ≤ 4294967295 * 4294967295:=Nat.mul_le_mul (by omega) (by omega);rw [← Int.natCast_mul];omega
structure GuessOf (u v1 d q r : Nat) : Prop where
  quo : (u : Int) / (v1 : Int) = (q : Int)
  le : (q : Int) * (v1 : Int) ≤ (u : Int)
  rest : (u : Int) - (q : Int) * (v1 : Int) = (r : Int)
  u_le : (u : Int) ≤ 18446744073709551615
  q_le : q ≤ 4294967297
  r_lt : r < v1
  d_le : d ≤ q
theorem GuessOf.parts {u v1 d q r : Nat} (G : GuessOf u v1 d q r) : q * v1 + r = u:=by
  have:=G.rest; rw [← Int.natCast_mul] at this; omega


theorem pair_abs (lo hi : Int) : (pr lo hi).natAbs / 18446744073709551616 * 18446744073709551616 + (pr lo hi).natAbs % 18446744073709551616 = (pr lo hi).natAbs:=by omega


theorem BOwns.keep {w w' : World} {base n : Nat} {v : Value} {l : List UInt8} (h : BOwns w base v n l) (b : Below w.heap.size w w') : BOwns w' base v n l:=by
  refine ⟨h.1,?_⟩
  rcases h.2 with h2 | ⟨g,cap,cur,e,hb,hg,h3,h4,h5,h6⟩
  · exact .inl h2
  · exact .inr ⟨g,cap,cur,e,hb,(b.block g (Array.getElem?_eq_some_iff.1 hg).1).trans hg,h3,h4,h5,h6⟩
def Half (k u0 u : Nat) (m : Bool) (l : List UInt8) : Prop:=(m = true → usF k u0 = usF k u ++ l.reverse) ∧ (m = false → usF k u0 = l.reverse)
theorem Half.low {k u0 u : Nat} {l : List UInt8} (h : Half k u0 u true l) (h2 : 2 ≤ k) (hu : u < k) : Half k u0 (u / k) false (l ++ [UInt8.ofNat (digN (u % k))]):=by
  refine ⟨fun h => (by cases h),fun _ => ?_⟩;rw [h.1 rfl,usF_low hu,Nat.mod_eq_of_lt hu];simp
theorem Half.len {k u0 u : Nat} {m : Bool} {l : List UInt8} (h : Half k u0 u m l) (h2 : 2 ≤ k) (h0 : u0 < 18446744073709551616) : l.length ≤ 64:=by
  have hl:=us_le h2 63 u0 (by omega);cases m with
  | true => rw [h.1 rfl,List.length_append,List.length_reverse] at hl; omega
  | false => rw [h.2 rfl,List.length_reverse] at hl; omega


structure DInv (lo hi d j q r : Nat) : Prop where
  le : j ≤ 64
  eq : hi * 2 ^ (64 - j) + lo / 2 ^ j = d * q + r
  r_lt : r < d
  q_lt : q < 2 ^ (64 - j)
theorem DInv.first (lo hi d : Nat) (hl : lo < 18446744073709551616) (h : hi < d) : DInv lo hi d 64 0 hi:=by
  refine ⟨by omega,?_,h,by simp⟩;have : lo / 2 ^ 64 = 0:=Nat.div_eq_of_lt (by simpa using hl);rw [this];simp
theorem DInv.last {lo hi d q r : Nat} (I : DInv lo hi d 0 q r) : (hi * 18446744073709551616 + lo) / d = q ∧ (hi * 18446744073709551616 + lo) % d = r:=by
  have h2:=I.eq;have h3:=I.r_lt;simp only [Nat.sub_zero,Nat.pow_zero,Nat.div_one,Nat.reducePow] at h2;rw [h2];exact ⟨by rw [Nat.mul_add_div (by omega),Nat.div_eq_of_lt h3,Nat.add_zero],by rw [Nat.mul_add_mod,Nat.mod_eq_of_lt h3]⟩


structure PartsOf (lo hi d : Int) (pl ph D : Nat) : Prop where
  low : (pr lo hi).natAbs % 18446744073709551616 = pl
  high : (pr lo hi).natAbs / 18446744073709551616 = ph
  size : d.natAbs = D
theorem PartsOf.quo {lo hi d : Int} {pl ph D : Nat} (h : PartsOf lo hi d pl ph D) : ph * 18446744073709551616 + pl = (pr lo hi).natAbs:=by
  have:=pair_abs lo hi; rw [h.low,h.high] at this; exact this
theorem PartsOf.d_le {lo hi d : Int} {pl ph D : Nat} (h : PartsOf lo hi d pl ph D) (hd : cellR d) : D ≤ 9223372036854775808:=by have:=h.size; unfold cellR at hd; omega
open Go.ChangeShapes Go.WideShapes Go.ChangeAt Go.RowKit Go.Joins Go.Deep


theorem Byt.slice {w : World} {v : Value} {l : List UInt8} (h : Byt w v l) : ∃ A n c,v = .slice A n c:=by
  obtain ⟨A,c,e,_⟩:=h;exact ⟨A,_,c,e⟩
theorem wf_i64 {n : Int} (h : (Lit.int .i64 n).wf = true) : -9223372036854775808 ≤ n ∧ n ≤ 9223372036854775807:=by
  simp only [Lit.wf,IntKind.min,IntKind.max,IntKind.signed,IntKind.bits,Bool.and_eq_true,decide_eq_true_eq] at h;simpa using h
theorem wf_u8 {n : Int} (h : (Lit.int .u8 n).wf = true) : 0 ≤ n ∧ n ≤ 255:=by
  simp only [Lit.wf,IntKind.min,IntKind.max,IntKind.signed,IntKind.bits,Bool.and_eq_true,decide_eq_true_eq] at h;simpa using h
theorem Byt.cap {w : World} {A : Option Addr} {n c : Nat} {l : List UInt8} (h : Byt w (.slice A n c) l) : n ≤ 9223372036854775807:=by
  obtain ⟨A',c',e,h1,h2,_⟩:=h;injection e with _ e _
  have h3 : maxLen ≤ 9223372036854775807:=by decide
  omega
section
variable {H : Type} {enc : TypeId × Value → H} {w : World}
end
open Go.RowKit


abbrev PBox (w : World) (b : Nat) (A : Option Addr) (n c : Nat) (o : Bool) : Prop:=Box w b (.slice A n c) (.bool o) 33
theorem al_two (w : World) (o o2 : Obj) : Below w.heap.size w ((w.alloc o).alloc o2):=alloc_then (al_one w o)
theorem PBox.put {w : World} {b : Nat} {A : Option Addr} {n c : Nat} {o : Bool} (h : PBox w b A n c o) (x y : Value) : Box ((w.setCell ⟨b,0,none⟩ x).setCell ⟨b,1,none⟩ y) b x y 33:=Box.put h x y
def PAt (b : Nat) (A : Option Addr) (n c : Nat) (o : Bool) (l : List UInt8) (w : World) : Prop:=PBox w b A n c o ∧ Byt w (.slice A n c) l
theorem PAt.keep {b : Nat} {A : Option Addr} {n c : Nat} {o : Bool} {l : List UInt8} {w w' : World} (h : PAt b A n c o l w) (k : Below w.heap.size w w') : PAt b A n c o l w':=⟨Box.keep h.1 k,h.2.keep k⟩
theorem PAt.use {b : Nat} {A : Option Addr} {n c : Nat} {o : Bool} {l : List UInt8} {w : World} (h : PAt b A n c o l w) : w.cell? ⟨b,0,none⟩ = some (.slice A n c) ∧ w.cell? ⟨b,1,none⟩ = some (.bool o):=⟨(Box.use h.1).1,(Box.use h.1).2.1⟩
theorem PAt.lt {b : Nat} {A : Option Addr} {n c : Nat} {o : Bool} {l : List UInt8} {w : World} (h : PAt b A n c o l w) : b < w.heap.size:=Box.lt h.1
theorem PAt.byt {b : Nat} {A : Option Addr} {n c : Nat} {o : Bool} {l : List UInt8} {w : World} (h : PAt b A n c o l w) : Byt w (.slice A n c) l:=h.2


theorem below_thenS {w w1 w2 : World} (h : Below w.heap.size w w1) (k : Below w1.heap.size w1 w2) : Below w.heap.size w w2:=h.trans (k.mono h.size)
theorem below_one (w : World) (o : Obj) : Below w.heap.size w (w.alloc o):=(Below.refl _ w).alloc (Nat.le_refl _) o
theorem ret_boolS {a b : Bool} (h : a = b) : Ending.returned (.bool a) = .returned (.bool b):=by rw [h]
abbrev ints (l : List Int) : List Value:=l.map (Value.int .i64)
theorem ints_len (l : List Int) : (ints l).length = l.length:=by simp [ints]
theorem ints_app (a b : List Int) : ints (a ++ b) = ints a ++ ints b:=by simp [ints]
theorem ints_one (l : List Int) : ∀ v ∈ ints l,v.oneCell' = true:=by
  intro v hv;rw [List.mem_map] at hv;obtain ⟨b,_,rfl⟩:=hv;rfl
theorem ints_at {l : List Int} {j : Nat} (h : j < l.length) : (ints l)[j]? = some (.int .i64 (l.getD j 0)):=by simp [ints,h]
def LiesS (w : World) (A : Option Addr) (xs : List Value) : Prop :=
  xs = [] ∨ ∃ g o,A = some ⟨g,o,none⟩ ∧ g < w.heap.size ∧ ∀ j v,xs[j]? = some v → w.cell? ⟨g,o + j,none⟩ = some v
theorem add_atS (g o j : Nat) : (⟨g,o,none⟩ : Addr).add j = ⟨g,o + j,none⟩:=by unfold Addr.add; split <;> simp_all
theorem LiesS.keep {w w' : World} {A : Option Addr} {xs : List Value} (h : LiesS w A xs) (b : Below w.heap.size w w') : LiesS w' A xs:=by
  rcases h with h | ⟨g,o,hA,hg,hc⟩
  · exact .inl h
  · exact .inr ⟨g,o,hA,Nat.lt_of_lt_of_le hg b.size,fun j v hv => (b.cell (p:=⟨g,o + j,none⟩) hg).trans (hc j v hv)⟩
theorem hpos_ofS {w : World} {A : Option Addr} {xs : List Value} (h : LiesS w A xs) {w' : World} (b : Below w.heap.size w w') (hx : 0 < xs.length) : ∃ ad,A = some ad ∧ ∀ j v,xs[j]? = some v → w'.cell? (ad.add j) = some v:=by
  rcases h.keep b with rfl | ⟨g,o,rfl,_,hc⟩
  · simp at hx
  · exact ⟨_,rfl,fun j v hv => by rw [add_atS]; exact hc j v hv⟩
def Row (w : World) (A : Option Addr) (n c : Nat) (l : List Int) : Prop:=l.length = n ∧ n ≤ c ∧ c ≤ maxLen ∧ LiesS w A (ints l)
theorem Row.keep {w w' : World} {A : Option Addr} {n c : Nat} {l : List Int} (h : Row w A n c l) (b : Below w.heap.size w w') : Row w' A n c l:=⟨h.1,h.2.1,h.2.2.1,h.2.2.2.keep b⟩
theorem row_nil (w : World) : Row w none 0 0 []:=⟨rfl,Nat.le_refl _,Nat.zero_le _,.inl rfl⟩
theorem Row.cells {w : World} {A : Option Addr} {n c : Nat} {l : List Int} (h : Row w A n c l) (hn : 0 < n) : ∃ g o,A = some ⟨g,o,none⟩ ∧ g < w.heap.size ∧ ∀ j,j < n → w.cell? ⟨g,o + j,none⟩ = some (.int .i64 (l.getD j 0)):=by
  obtain ⟨h1,_,_,h4⟩:=h
  rcases h4 with h4 | ⟨g,o,hA,hg,hc⟩
  · have : l = []:=by simpa [ints] using h4
    subst this;simp at h1;omega
  · exact ⟨g,o,hA,hg,fun j hj => hc j _ (ints_at (by omega))⟩
theorem Row.high {w : World} {A : Option Addr} {n c : Nat} {l : List Int} (h : Row w A n c l) {k : Nat} (hk : k ≤ n) : Row w A k c (l.take k):=by
  obtain ⟨h1,h2,h3,h4⟩:=h;refine ⟨by simp; omega,by omega,h3,?_⟩
  rcases h4 with h4 | ⟨g,o,hA,hg,hc⟩
  · left
    have:=congrArg List.length h4;rw [ints_len] at this;simp at this;subst this;simp
  · refine .inr ⟨g,o,hA,hg,fun j v hv => hc j v ?_⟩
    unfold ints at hv;rw [List.map_take,List.getElem?_take] at hv
    split at hv
    · exact hv
    · cases hv
def restAt (A : Option Addr) (k c : Nat) : Option Addr:=if c = k then A else A.map (·.add (k * 1))
theorem Row.rest {w : World} {A : Option Addr} {n c : Nat} {l : List Int} (h : Row w A n c l) {k : Nat} (hk : k ≤ n) : Row w (restAt A k c) (n - k) (c - k) (l.drop k):=by
  obtain ⟨h1,h2,h3,h4⟩:=h;refine ⟨by simp; omega,by omega,by omega,?_⟩
  by_cases hc : c = k
  · left
    have : l.drop k = []:=List.drop_eq_nil_of_le (by omega);rw [this];rfl
  · rcases h4 with h4 | ⟨g,o,rfl,hg,hcc⟩
    · left
      have:=congrArg List.length h4;rw [ints_len] at this;simp at this;subst this;simp
    · refine .inr ⟨g,o + k,by unfold restAt; rw [if_neg hc]; simp [add_atS],hg,fun j v hv => ?_⟩
      unfold ints at hv;rw [List.map_drop,List.getElem?_drop] at hv;rw [Nat.add_assoc];exact hcc _ v hv
theorem run_rest {A : Option Addr} {n c k : Nat} (w : World) (hk : k ≤ n) :
    (Instr.slice 22 (.slice A n c) (some (.int .i64 (k : Int))) none none).run Tryz.prog w = .ok (.slice (restAt A k c) (n - k) (c - k)) w:=by
  have hz : (sizeOf 3).run Tryz.prog w = .ok 1 w:=by kernel_rfl
  simp [Instr.slice,run_underlying Tryz.underlying22,Instr.sliceBounds,run_sliceBound,hk,hz,restAt]
theorem info_int : (Tryz.prog.info? 3).map (fun i => (i.zero,i.size,i.bytes)) = some (some (.int .i64 0),1,8):=by kernel_rfl
abbrev Owns (w : World) (base : Nat) (v : Value) (n : Nat) (l : List Int) : Prop:=w.ownsRow base 3 1 v n (ints l)
theorem Owns.row {w : World} {base n : Nat} {v : Value} {l : List Int} (h : Owns w base v n l) : ∃ A c,v = .slice A n c ∧ Row w A n c l:=by
  have hl:=h.1;rw [ints_len,Nat.mul_one] at hl
  rcases h.2 with ⟨rfl,h0⟩ | ⟨g,cap,cur,rfl,_,hg,hnc,hcm,_,ht⟩
  · have : l = []:=List.eq_nil_of_length_eq_zero (by omega)
    subst this;subst h0;exact ⟨_,_,rfl,row_nil w⟩
  · refine ⟨_,_,rfl,hl,hnc,hcm,.inr ⟨g,0,rfl,(Array.getElem?_eq_some_iff.1 hg).1,fun j x hx => ?_⟩⟩
    rw [← ht,List.getElem?_take] at hx
    split at hx
    · rw [Nat.zero_add]
      simp [World.cell?,hg];simpa using hx
    · cases hx
theorem Owns.alloc {w : World} {base n : Nat} {v : Value} {l : List Int} (h : Owns w base v n l) (o : Obj) : Owns (w.alloc o) base v n l:=World.ownsRow.alloc h o
theorem own_fromS {w : World} {base e size n : Nat} {v : Value} {xs : List Value} (h : w.ownsRow base e size v n xs) : ∀ k,v.ownBlock = some k → base ≤ k:=fun k hk => (h.lt k hk).1
theorem owns_block {w : World} {base g n : Nat} {l : List Int} (h : w.heap[g]? = some (.cells (ints l).toArray 3 (0,0))) (hl : l.length = n) (hb : base ≤ g) (hm : n ≤ maxLen) : Owns w base (.slice (some ⟨g,0,none⟩) n n) n l :=
  ⟨by rw [ints_len,hl,Nat.mul_one],.inr ⟨g,n,_,rfl,hb,h,Nat.le_refl _,hm,by simp [ints,hl],by rw [← hl,Nat.mul_one]; exact List.take_of_length_le (by simp [ints])⟩⟩
theorem run_app {w : World} (ty : TypeId) {base n : Nat} {v : Value} {xs : List Int} (hown : Owns w base v n xs) {A : Option Addr} {m c : Nat} {ys : List Int} (hr : Row w A m c ys) (h63 : n + m ≤ 1000000) (hbase : base ≤ w.heap.size) :
    ∃ v' w',(Builtin.append_ #[22,22] ty #[v,.slice A m c]).run Tryz.prog w = .ok v' w' ∧ Owns w' base v' (n + m) (xs ++ ys) ∧ w.grownBy w' v.ownBlock:=by
  obtain ⟨i0,hi,hz0,hz1,hz2⟩:=info_parts info_int;obtain ⟨h1,h2,h3,h4⟩:=hr;cases A with
  | some ad =>
    have hsrc : ∀ j u,(ints ys)[j]? = some u → w.cell? (ad.add j) = some u:=by
      intro j u hu
      rcases h4 with h4 | ⟨g,o,e,_,hc⟩
      · rw [h4] at hu; simp at hu
      · injection e with e
        rw [e,add_atS];exact hc j u hu
    obtain ⟨v',w',ha,hb,hc,_⟩:=run_append_own (P:=Tryz.prog) w base 22 ty 3 i0 (.int .i64 0) 1 8 Tryz.underlying22 hi hz0 hz1 hz2 rfl (by decide) v n (ints xs) hown ad m c (ints ys) (by rw [ints_len,h1,Nat.mul_one]) hsrc (ints_one ys) (by unfold maxLen; omega) (by omega) hbase;exact ⟨v',w',ha,by have e:=ints_app xs ys; unfold Owns; rw [e]; exact hb,hc⟩
  | none =>
    have hnil : ys = []:=by
      rcases h4 with h | ⟨_,_,h,_⟩
      · simpa [ints] using h
      · cases h
    subst hnil;have hm : m = 0:=by rw [← h1]; rfl
    subst hm;refine ⟨v,w,?_,by simpa using hown,World.grownBy.refl w _⟩
    rcases hown.2 with ⟨rfl,rfl⟩ | ⟨g,cap,cur,rfl,_,_,hnc,_⟩
    · simp [Builtin.append_,run_underlying Tryz.underlying22,sizeOf,typeInfo,hi,Builtin.lenOf,Builtin.firstCells]
    · simp [Builtin.append_,run_underlying Tryz.underlying22,sizeOf,typeInfo,hi,Builtin.lenOf,Builtin.firstCells,hnc,storeCells]
theorem app_below {w0 w w' : World} {base n : Nat} {v : Value} {xs : List Int} (hown : Owns w base v n xs) (hb : Below w0.heap.size w0 w) (hg : w.grownBy w' v.ownBlock) (hB : w0.heap.size ≤ base) : Below w0.heap.size w0 w' :=
  hb.grown hg hb.size (fun k hk => Nat.le_trans hB (own_fromS hown k hk))
theorem wp_app {o : Oper} {a : Act} {K : Act → World → Prop} {Q : Exit → Act → World → Prop} {w : World} (s x : Operand)
    (ho : o.op = .call { callee:=.builtin .append,args:=#[s,x],argTypes:=#[22,22] })
    (base : Nat) (v : Value) (n : Nat) (xs : List Int) (hs : a.eval s = v) (hown : Owns w base v n xs)
    (A : Option Addr) (m c : Nat) (ys : List Int) (hx : a.eval x = .slice A m c) (hr : Row w A m c ys) (h63 : n + m ≤ 1000000) (hbase : base ≤ w.heap.size)
    (w0 : World) (hb : Below w0.heap.size w0 w) (hB : w0.heap.size ≤ base)
    (h : ∀ v' w',Owns w' base v' (n + m) (xs ++ ys) → Below w0.heap.size w0 w' → K (a.put o.dst v') w') : o.wp Tryz.prog a w K Q:=by
  obtain ⟨v',w',hr,h2,h3⟩:=run_app o.type hown hr h63 hbase;unfold Oper.wp execOp;simp only [ho,resolve,invoke,builtin,Sem.run_bind,Sem.run_pure,Result.andThen_ok,List.map_toArray,List.map_cons,List.map_nil,hs,hx,hr];exact h v' w' h2 (app_below hown hb h3 hB)
theorem wpList_app {ops : Array Oper} {rest : List Oper} {o : Oper} {a : Act} {Q : Exit → Act → World → Prop} {w : World} (hgd : o.guard = none) (s x : Operand)
    (ho : o.op = .call { callee:=.builtin .append,args:=#[s,x],argTypes:=#[22,22] })
    (base : Nat) (v : Value) (n : Nat) (xs : List Int) (hs : a.eval s = v) (hown : Owns w base v n xs)
    (A : Option Addr) (m c : Nat) (ys : List Int) (hx : a.eval x = .slice A m c) (hr : Row w A m c ys) (h63 : n + m ≤ 1000000) (hbase : base ≤ w.heap.size)
    (w0 : World) (hb : Below w0.heap.size w0 w) (hB : w0.heap.size ≤ base)
    (h : ∀ v' w',Owns w' base v' (n + m) (xs ++ ys) → Below w0.heap.size w0 w' → wpList Tryz.prog ops Q rest (a.put o.dst v') w') : wpList Tryz.prog ops Q (o :: rest) a w :=
  wpList_plain hgd fun _ hK => wp_app s x ho base v n xs hs hown A m c ys hx hr h63 hbase w0 hb hB fun v' w' h2 h3 => hK _ _ (h v' w' h2 h3)
theorem step_app {ops : Array Oper} {o : Oper} {a : Act} {K : Act → World → Prop} {Q : Exit → Act → World → Prop} {E : Prop} {w : World} (hgd : o.guard = none) (s x : Operand)
    (ho : o.op = .call { callee:=.builtin .append,args:=#[s,x],argTypes:=#[22,22] })
    (base : Nat) (v : Value) (n : Nat) (xs : List Int) (hs : a.eval s = v) (hown : Owns w base v n xs)
    (A : Option Addr) (m c : Nat) (ys : List Int) (hx : a.eval x = .slice A m c) (hr : Row w A m c ys) (h63 : n + m ≤ 1000000) (hbase : base ≤ w.heap.size)
    (w0 : World) (hb : Below w0.heap.size w0 w) (hB : w0.heap.size ≤ base)
    (h : ∀ v' w',Owns w' base v' (n + m) (xs ++ ys) → Below w0.heap.size w0 w' → K (a.put o.dst v') w') :
    if Region.wanted o (yielded ops a.tmps) = true then Oper.wp Tryz.prog o a w K Q else E:=by
  have hw : Region.wanted o (yielded ops a.tmps) = true:=by simp [Region.wanted,hgd]
  rw [if_pos hw];exact wp_app s x ho base v n xs hs hown A m c ys hx hr h63 hbase w0 hb hB h
def Since (w a : World) : Prop:=Below w.heap.size w a
theorem Since.drew {w a : World} (h : Since w a) : Since w a.drew:=Below.trans h ⟨rfl,rfl,rfl,Nat.le_refl _,fun _ _ => rfl⟩
theorem Since.bel {w a : World} (h : Since w a) : Below w.heap.size w a:=h
theorem Since.then {w a b : World} (h : Since w a) (k : Below a.heap.size a b) : Since w b:=below_thenS h k
theorem Since.cell {w a : World} {g o : Nat} {v : Value} (h : Since w a) (hg : g < w.heap.size) (hc : w.cell? ⟨g,o,none⟩ = some v) : a.cell? ⟨g,o,none⟩ = some v:=(Below.cell h (p:=⟨g,o,none⟩) hg).trans hc
theorem one_row (w : World) (x : Int) : Row (w.alloc (.cells #[.int .i64 x] 3)) (some ⟨w.heap.size,0,none⟩) 1 1 [x]:=by
  obtain ⟨_,_,e,h⟩:=Owns.row (l:=[x]) (World.ownsRow_lit (base:=0) (e:=3) (size:=1) w #[.int .i64 x] 1 (Nat.zero_le _) (by unfold maxLen; omega) rfl);injection e with e1 e2 e3
  subst e1 e3;exact h
theorem Row.grown {w w' : World} {g n c : Nat} {l : List Int} {row : Option Nat} (h : Row w (some ⟨g,0,none⟩) n c l) (hg : w.grownBy w' row) (hne : some g ≠ row) : Row w' (some ⟨g,0,none⟩) n c l:=by
  refine ⟨h.1,h.2.1,h.2.2.1,?_⟩
  rcases h.2.2.2 with h | ⟨b,o,e,hb,hc⟩
  · exact .inl h
  · injection e with e
    injection e with e1 e2
    subst e1 e2;exact .inr ⟨g,0,rfl,Nat.lt_of_lt_of_le hb hg.size,fun j v hv => (hg.cell_far ⟨g,0 + j,none⟩ hb hne).trans (hc j v hv)⟩


theorem own_any (A : Option Addr) (n c : Nat) (l : List Int) (w : World) (hn : n ≤ 65536) (HR : Hid (Row w A n c l)) :
    Calls Tryz.prog 86 #[.slice A n c] w fun e w' => ∃ g,e = .returned (.slice (some ⟨g,0,none⟩) n n) ∧ Owns w' w.heap.size (.slice (some ⟨g,0,none⟩) n n) n l ∧ Below w.heap.size w w':=by
  obtain ⟨i0,hi,hz0,hz1,hz2⟩:=info_parts info_int;obtain ⟨Z,hZ⟩ : ∃ Z,Z = (madeCells (Value.int .i64 0).cells n).toList:=⟨_,rfl⟩;obtain ⟨X,hX⟩ : ∃ X,X = ints l:=⟨_,rfl⟩;have hmk : (Instr.makeSlice 22 (.int .i64 (n : Int)) (.int .i64 (n : Int))).run Tryz.prog w = .ok (.slice (some ⟨w.heap.size,0,none⟩) n n) (w.alloc (.cells Z.toArray 3)):=by
    have:=run_make (P:=Tryz.prog) w 22 3 i0 (.int .i64 0) Tryz.underlying22 hi hz0 .i64 .i64 n n (by omega) (Int.le_refl _) (by rw [hz2]; omega) (by omega);rw [hz1] at this;simpa [hZ] using this
  have HZ : Hid (Z.length = n):=by rw [hZ]; show _ = n; simp [size_madeCells]
  have HX : Hid (X.length = n):=by rw [hX]; have:=HR.out.1; show _ = n; rw [ints_len]; exact this
  have HE:=zqh hX;have HL0:=zqh HR.out.2.2.2;clear hX hZ hi hz0 hz1 hz2;go_enter Tryz.func86,Tryz.ntmps86;(go_wp2_with (with_reducible refine wpList_copy_splice rfl (.tmp 7) (.tmp 8) 22 22 rfl 3 Tryz.underlying22 ?c0 (some ⟨w.heap.size,0,none⟩) A n n n c rfl rfl w.heap.size 0 Z 3 ?c1 X ?c2 (fun hx => ⟨rfl,hpos_ofS (HE.out ▸ HL0.out) ((Below.refl _ _).alloc (Nat.le_refl _) _) hx⟩) ?c3 ?c4 w.heap.size w ?c5 ?c6 ?_))
  case c0 => kernel_rfl
  case c1 => exact heap_alloc_new _ _
  case c2 => rw [HX.out]; simp
  case c3 => rw [HX.out,HZ.out]; omega
  case c4 => rw [HE.out]; exact ints_one l
  case c5 => exact (Below.refl _ _).alloc (Nat.le_refl _) _
  case c6 => omega
  intro w2 hg hb2;go_wp2;go_ret;refine ⟨w.heap.size,rfl,owns_block ?_ HR.out.1 (Nat.le_refl _) (by unfold maxLen; omega),hb2⟩;have h2:=hg.out;have e : splice Z 0 X = X:=by
    have z:=HZ.out;have x:=HX.out;simp [splice,z,x]
  rw [e,HE.out] at h2;exact h2
theorem with_anyS (A : Option Addr) (n c : Nat) (x : Int) (l : List Int) (w : World) (hn : n ≤ 65536) (HR : Hid (Row w A n c l)) :
    Calls Tryz.prog 87 #[.slice A n c,.int .i64 x] w fun e w' => ∃ g,e = .returned (.slice (some ⟨g,0,none⟩) (n + 1) (n + 1)) ∧ Owns w' w.heap.size (.slice (some ⟨g,0,none⟩) (n + 1) (n + 1)) (n + 1) (l ++ [x]) ∧ Below w.heap.size w w':=by
  obtain ⟨i0,hi,hz0,hz1,hz2⟩:=info_parts info_int;obtain ⟨Z,hZ⟩ : ∃ Z,Z = (madeCells (Value.int .i64 0).cells (n + 1)).toList:=⟨_,rfl⟩;obtain ⟨X,hX⟩ : ∃ X,X = ints l:=⟨_,rfl⟩;have hmk : (Instr.makeSlice 22 (.int .i64 ((n : Int) + 1)) (.int .i64 ((n : Int) + 1))).run Tryz.prog w = .ok (.slice (some ⟨w.heap.size,0,none⟩) (n + 1) (n + 1)) (w.alloc (.cells Z.toArray 3)):=by
    have:=run_make (P:=Tryz.prog) w 22 3 i0 (.int .i64 0) Tryz.underlying22 hi hz0 .i64 .i64 ((n : Int) + 1) ((n : Int) + 1) (by omega) (Int.le_refl _) (by rw [hz2]; omega) (by omega);rw [hz1] at this;simpa [hZ] using this
  have HZ : Hid (Z.length = n + 1):=by rw [hZ]; show _ = n + 1; simp [size_madeCells]
  have HX : Hid (X.length = n):=by rw [hX]; have:=HR.out.1; show _ = n; rw [ints_len]; exact this
  have HE:=zqh hX;have HL0:=zqh HR.out.2.2.2;clear hX hZ hi hz0 hz1 hz2;go_enter Tryz.func87,Tryz.ntmps87;(go_wp2_with (with_reducible refine wpList_copy_splice rfl (.tmp 10) (.tmp 11) 22 22 rfl 3 Tryz.underlying22 ?c0 (some ⟨w.heap.size,0,none⟩) A (n + 1) (n + 1) n c rfl rfl w.heap.size 0 Z 3 ?c1 X ?c2 (fun hx => ⟨rfl,hpos_ofS (HE.out ▸ HL0.out) ((Below.refl _ _).alloc (Nat.le_refl _) _) hx⟩) ?c3 ?c4 w.heap.size w ?c5 ?c6 ?_))
  case c0 => kernel_rfl
  case c1 => exact heap_alloc_new _ _
  case c2 => rw [HX.out]; simp
  case c3 => rw [HX.out,HZ.out]; omega
  case c4 => rw [HE.out]; exact ints_one l
  case c5 => exact (Below.refl _ _).alloc (Nat.le_refl _) _
  case c6 => omega
  intro w2 hg hb2;have e : splice Z 0 X = X ++ Z.drop n:=by
    have z:=HZ.out;have x:=HX.out;simp [splice,z,x]
  rw [e] at hg;have hl : (X ++ Z.drop n).length = n + 1:=by have z:=HZ.out; have x:=HX.out; simp [z,x]
  obtain ⟨y,hy⟩ : ∃ y,(X ++ Z.drop n)[n]? = some y:=⟨_,List.getElem?_eq_getElem (by omega)⟩;have k2 : w2.cell? ⟨w.heap.size,n,none⟩ = some y:=by
    simp only [World.cell?,hg.out];simpa using hy
  have f2 : w2.frozen? ⟨w.heap.size,n,none⟩ = false:=by simp [World.frozen?,hg.out]
  have HB2:=zqh hb2;have HL:=zqh hl;clear e hl hb2 hy;go_wp2;go_ret;refine ⟨w.heap.size,rfl,owns_block ?_ (by have:=HR.out.1; simp [this]) (Nat.le_refl _) (by unfold maxLen; omega),HB2.out.setCell (Nat.le_refl _) _⟩;rw [Go.Joins.block_setCell hg.out]
  congr 2
  have z:=HZ.out;have x':=HX.out;have hx : (X ++ Z.drop n).set n (.int .i64 x) = X ++ [.int .i64 x]:=by
    rw [List.set_append_right _ _ (by omega),x',Nat.sub_self]
    congr 1
    have : Z.drop n = [Z[n]]:=by
      rw [List.drop_eq_getElem_cons (by omega),List.drop_eq_nil_of_le (by omega)]
    rw [this];rfl
  rw [show ints (l ++ [x]) = X ++ [.int .i64 x] by rw [HE.out,ints_app]; rfl];simp [hx]
end Go.Proofs.YtcmldhjicjmmgaaGreatDoor
