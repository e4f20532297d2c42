/- Part 22. -/
import Derived.Test.YtcmldhjicjmmgaaGreatDoorXkAU
import Derived.Laws.EntriesVeiled
set_option linter.unusedVariables false
set_option linter.unusedSimpArgs false
set_option maxRecDepth 100000
set_option maxHeartbeats 4000000

namespace Go.Proofs.YtcmldhjicjmmgaaGreatDoor
open Go.RowKit


theorem eight_bytesI (n : Nat) (h : n < 18446744073709551616) : eight (byteOf n 0) (byteOf n 1) (byteOf n 2) (byteOf n 3) (byteOf n 4) (byteOf n 5) (byteOf n 6) (byteOf n 7) = n:=by
  unfold eight byteOf;simp only [Nat.reducePow];omega
theorem splice_getI {α : Type} (l c : List α) (o i : Nat) (h : o + c.length ≤ l.length) : (splice l o c)[i]? = if o ≤ i ∧ i < o + c.length then c[i - o]? else l[i]?:=by
  unfold splice
  by_cases h1 : i < o
  · rw [List.getElem?_append_left (by simp; omega),List.getElem?_take,if_pos h1,if_neg (by omega)]
  · rw [List.getElem?_append_right (by simp; omega)]
    have e : (l.take o).length = o:=by simp; omega
    rw [e]
    by_cases h2 : i < o + c.length
    · rw [List.getElem?_append_left (by omega),if_pos (by omega)]
    · rw [List.getElem?_append_right (by omega),List.getElem?_drop,if_neg (by omega)]
      congr 1
      omega
theorem okB_natI {L : Nat} {p : Int} {b : List UInt8} (h : okB L p b.length = true) (hb : b ≠ []) : 0 ≤ p ∧ p.toNat + b.length ≤ L:=by
  have:=(okB_iff _ _ _).1 h;have hl : 0 < b.length:=List.length_pos_iff.2 hb;omega
theorem writeF_lenI (m : PM) (p : Int) (b : List UInt8) : (writeF m p b).1.length = m.1.length:=by
  unfold writeF
  split
  · rename_i h
    exact layF_len h.1
  · rfl
theorem writeF_rowI {m : PM} {p : Int} {b : List UInt8} (h : okB m.1.length p b.length = true) : (writeF m p b).1 = layF m.1 p b:=by
  by_cases hb : b = []
  · subst hb; rw [writeF_nil,layF_none]
  · rw [writeF_yes h hb]
theorem wrap_unI {n : Int} (h0 : -9223372036854775808 ≤ n) (h1 : n ≤ 9223372036854775807) : wrap64 ((un n : Nat) : Int) = n:=by
  have:=un_mod n;unfold wrap64;omega
theorem bn_writeI (m : PM) (p : Int) (b : List UInt8) (i : Nat) (h : okB m.1.length p b.length = true) (hi : i < b.length) : bn (writeF m p b) (p.toNat + i) = (b[i]).toNat:=by
  have hb : b ≠ []:=by intro e; rw [e] at hi; simp at hi
  have k:=okB_natI h hb;unfold bn;rw [writeF_rowI h];unfold layF;have e:=splice_getI m.1 b p.toNat (p.toNat + i) k.2;rw [if_pos (by omega),show p.toNat + i - p.toNat = i by omega] at e;unfold List.getD;rw [e,List.getElem?_eq_getElem hi];rfl
theorem fetch_storeI (m : PM) (p n : Int) (hc : cellC m.1.length p = 0) (h0 : -9223372036854775808 ≤ n) (h1 : n ≤ 9223372036854775807) : fetchF (storeF m p n) p = n:=by
  have hs : storeF m p n = writeF m p (cellBytes n):=by unfold storeF; rw [if_pos hc]
  have ok : okB m.1.length p (cellBytes n).length = true:=store_ok hc;rw [hs];unfold fetchF;rw [writeF_lenI,if_pos hc];have b0:=bn_writeI m p (cellBytes n) 0 ok (by show 0 < 8; omega);have b1:=bn_writeI m p (cellBytes n) 1 ok (by show 1 < 8; omega);have b2:=bn_writeI m p (cellBytes n) 2 ok (by show 2 < 8; omega);have b3:=bn_writeI m p (cellBytes n) 3 ok (by show 3 < 8; omega);have b4:=bn_writeI m p (cellBytes n) 4 ok (by show 4 < 8; omega);have b5:=bn_writeI m p (cellBytes n) 5 ok (by show 5 < 8; omega);have b6:=bn_writeI m p (cellBytes n) 6 ok (by show 6 < 8; omega);have b7:=bn_writeI m p (cellBytes n) 7 ok (by show 7 < 8; omega);rw [Nat.add_zero] at b0;rw [b0,b1,b2,b3,b4,b5,b6,b7];show wrap64 ((eight (UInt8.ofNat (byteOf (un n) 0)).toNat (UInt8.ofNat (byteOf (un n) 1)).toNat (UInt8.ofNat (byteOf (un n) 2)).toNat (UInt8.ofNat (byteOf (un n) 3)).toNat (UInt8.ofNat (byteOf (un n) 4)).toNat (UInt8.ofNat (byteOf (un n) 5)).toNat (UInt8.ofNat (byteOf (un n) 6)).toNat (UInt8.ofNat (byteOf (un n) 7)).toNat : Nat) : Int) = n;rw [u8_byte,u8_byte,u8_byte,u8_byte,u8_byte,u8_byte,u8_byte,u8_byte,eight_bytesI _ (un_lt n),wrap_unI h0 h1]
theorem bn_farI (m : PM) (q : Int) (b : List UInt8) (k : Nat) (h : okB m.1.length q b.length = true) (hk : (k : Int) < q ∨ q + (b.length : Int) ≤ (k : Int)) : bn (writeF m q b) k = bn m k:=by
  unfold bn
  by_cases hb : b = []
  · subst hb; rw [writeF_nil]
  rw [writeF_rowI h];have n:=okB_natI h hb;have e:=splice_getI m.1 b q.toNat k n.2;rw [if_neg (by omega)] at e;unfold layF List.getD;rw [e]
theorem fetch_farI (m : PM) (p q : Int) (b : List UInt8) (h : okB m.1.length q b.length = true) (p0 : 0 ≤ p) (hp : p + 8 ≤ q) : fetchF (writeF m q b) p = fetchF m p:=by
  unfold fetchF;rw [writeF_lenI,bn_farI m q b _ h (by omega),bn_farI m q b _ h (by omega),bn_farI m q b _ h (by omega),bn_farI m q b _ h (by omega),bn_farI m q b _ h (by omega),bn_farI m q b _ h (by omega),bn_farI m q b _ h (by omega),bn_farI m q b _ h (by omega)]
theorem cellC_inI {L : Nat} {p : Int} (h0 : 0 ≤ p) (h1 : p + 8 ≤ (L : Int)) (h8 : p % 8 = 0) : cellC L p = 0:=by
  have h : okB L p 8 = true:=(okB_iff _ _ _).2 (by omega);unfold cellC;rw [if_pos h,if_pos h8]
def freK : VmK:={ vm0 with cm:=2048,cd:=32,cr:=32,cw:=200,co:=500,here:=1368 }
theorem store_len9I (m : PM) (p n : Int) : (storeF m p n).1.length = m.1.length:=by
  unfold storeF
  split
  · exact writeF_lenI _ _ _
  · rfl
theorem fetch_farB (m : PM) (p q : Int) (b : List UInt8) (h : okB m.1.length q b.length = true) (q0 : 0 ≤ q) (hp : q + (b.length : Int) ≤ p) : fetchF (writeF m q b) p = fetchF m p:=by
  unfold fetchF;rw [writeF_lenI,bn_farI m q b _ h (by omega),bn_farI m q b _ h (by omega),bn_farI m q b _ h (by omega),bn_farI m q b _ h (by omega),bn_farI m q b _ h (by omega),bn_farI m q b _ h (by omega),bn_farI m q b _ h (by omega),bn_farI m q b _ h (by omega)]
theorem store_away (m : PM) (p q n : Int) (hq : cellC m.1.length q = 0) (p0 : 0 ≤ p) (q0 : 0 ≤ q) (hp : p + 8 ≤ q ∨ q + 8 ≤ p) : fetchF (storeF m q n) p = fetchF m p:=by
  unfold storeF;rw [if_pos hq]
  rcases hp with hp | hp
  · exact fetch_farI m p q _ (store_ok hq) p0 hp
  · exact fetch_farB m p q _ (store_ok hq) q0 (by exact hp)
def putsF (m : PM) (p : Int) : List Int → PM
  | [] => m
  | c :: cs => putsF (storeF m p c) (p + 8) cs
def laidM (m : PM) (at_ : Int) (cells : List Int) : PM:=((putsF (storeF m at_ 256) (at_ + 8) cells).1,[])
theorem puts_len : ∀ (l : List Int) (m : PM) (p : Int),(putsF m p l).1.length = m.1.length
  | [],_,_ => rfl
  | c :: cs,m,p => by show (putsF (storeF m p c) (p + 8) cs).1.length = _; rw [puts_len cs,store_len9I]
theorem puts_snoc : ∀ (l : List Int) (m : PM) (p x : Int),putsF m p (l ++ [x]) = storeF (putsF m p l) (p + 8 * (l.length : Int)) x
  | [],m,p,x => by show storeF m p x = storeF m (p + 8 * 0) x; rw [Int.mul_zero,Int.add_zero]
  | c :: cs,m,p,x => by
    show putsF (storeF m p c) (p + 8) (cs ++ [x]) = _;rw [puts_snoc cs];show _ = storeF (putsF (storeF m p c) (p + 8) cs) _ x
    congr 1
    simp;omega
theorem puts_away : ∀ (l : List Int) (m : PM) (p q : Int),0 ≤ p → p % 8 = 0 → p + 8 * (l.length : Int) ≤ m.1.length → 0 ≤ q → (q + 8 ≤ p ∨ p + 8 * (l.length : Int) ≤ q) → fetchF (putsF m p l) q = fetchF m q
  | [],_,_,_,_,_,_,_,_ => rfl
  | c :: cs,m,p,q,h0,h8,hl,q0,h => by
    simp only [List.length_cons] at hl h;show fetchF (putsF (storeF m p c) (p + 8) cs) q = _;rw [puts_away cs _ _ q (by omega) (by omega) (by rw [store_len9I]; omega) q0 (by omega),store_away _ _ _ _ (cellC_inI h0 (by omega) h8) q0 h0 (by omega)]
theorem puts_at : ∀ (l : List Int) (m : PM) (p : Int) (i : Nat) (x : Int),l[i]? = some x → cellR x → 0 ≤ p → p % 8 = 0 → p + 8 * (l.length : Int) ≤ m.1.length → fetchF (putsF m p l) (p + 8 * (i : Int)) = x
  | [],_,_,_,_,h,_,_,_,_ => by simp at h
  | c :: cs,m,p,0,x,h,hx,h0,h8,hl => by
    obtain rfl : c = x:=by simpa using h
    simp only [List.length_cons] at hl;show fetchF (putsF (storeF m p c) (p + 8) cs) (p + 8 * 0) = _;have hc:=cellC_inI (L:=m.1.length) h0 (by omega) h8;rw [puts_away cs _ _ _ (by omega) (by omega) (by rw [store_len9I]; omega) (by omega) (by omega),show p + 8 * 0 = p by omega,fetch_storeI m p c hc hx.1 (by have:=hx.2; omega)]
  | c :: cs,m,p,i + 1,x,h,hx,h0,h8,hl => by
    simp only [List.length_cons] at hl;show fetchF (putsF (storeF m p c) (p + 8) cs) _ = _;have:=puts_at cs (storeF m p c) (p + 8) i x (by simpa using h) hx (by omega) (by omega) (by rw [store_len9I]; omega);rw [← this]
    congr 1
    omega
theorem laid_len (m : PM) (p : Int) (l : List Int) : (laidM m p l).1.length = m.1.length:=by show (putsF (storeF m p 256) (p + 8) l).1.length = _; rw [puts_len,store_len9I]
theorem laid_first {m : PM} {p : Int} {l : List Int} (h0 : 0 ≤ p) (h8 : p % 8 = 0) (hl : p + 8 + 8 * (l.length : Int) ≤ m.1.length) : fetchF (laidM m p l) p = 256:=by
  show fetchF (putsF (storeF m p 256) (p + 8) l) p = _;rw [puts_away l _ _ p (by omega) (by omega) (by rw [store_len9I]; omega) h0 (.inl (by omega)),fetch_storeI m p 256 (cellC_inI h0 (by omega) h8) (by omega) (by omega)]
theorem laid_cell {m : PM} {p : Int} {l : List Int} {i : Nat} {x : Int} (hi : l[i]? = some x) (hx : cellR x) (h0 : 0 ≤ p) (h8 : p % 8 = 0) (hl : p + 8 + 8 * (l.length : Int) ≤ m.1.length) : fetchF (laidM m p l) (p + 8 + 8 * (i : Int)) = x :=
  puts_at l (storeF m p 256) (p + 8) i x hi hx (by omega) (by omega) (by rw [store_len9I]; omega)
theorem laid_away {m : PM} {p q : Int} {l : List Int} (h0 : 0 ≤ p) (h8 : p % 8 = 0) (hl : p + 8 + 8 * (l.length : Int) ≤ m.1.length) (q0 : 0 ≤ q) (h : q + 8 ≤ p ∨ p + 8 + 8 * (l.length : Int) ≤ q) : fetchF (laidM m p l) q = fetchF m q:=by
  show fetchF (putsF (storeF m p 256) (p + 8) l) q = _;rw [puts_away l _ _ q (by omega) (by omega) (by rw [store_len9I]; omega) q0 (by omega),store_away _ _ _ _ (cellC_inI h0 (by omega) h8) q0 h0 (by omega)]


abbrev stL9 (M : PM) (d r : List Int) : VmL:={ newL 2048 with m:=M,d:=d,r:=r }
def st (a : Addr) (M : PM) (d r : List Int) (ip fu : Int) : RS:=⟨a,fun _ => False,freK,stL9 M d r,ip,0,false,fu⟩
def stX (a : Addr) (M : PM) (d r : List Int) (ip fu : Int) (X : Nat → Prop) : RS:=⟨a,X,freK,stL9 M d r,ip,0,false,fu⟩
def stW (a : Addr) (M : PM) (d r : List Int) (ip x fu : Int) : RS:=⟨a,fun _ => False,freK,stL9 M d r,ip,x,true,fu⟩
theorem cell_in {M : PM} (C : M.1.length = 2048) {p : Int} (h0 : 0 ≤ p) (h1 : p ≤ 2040) (h8 : p % 8 = 0) : cellC M.1.length p = 0:=by rw [C]; exact cellC_inI h0 (by show p + 8 ≤ 2048; omega) h8
theorem wrap_8 {p : Int} (h0 : 0 ≤ p) (h1 : p ≤ 2040) : wrap64 (p + 8) = p + 8:=by unfold wrap64; omega
theorem isk {S : RS} {M : PM} (e : S.L.m = M) (C : M.1.length = 2048) {x n : Int} (h0 : 0 ≤ x) (h1 : x ≤ 2040) (h8 : x % 8 = 0) (hf : fetchF M x = n) (hb : codeB n = true) : IsKind S x n:=⟨by rw [e]; exact cell_in C h0 h1 h8,by rw [e]; exact hf,hb,by rw [e,C]; decide⟩
structure WordAt (M : PM) (ip x n : Int) : Prop where
  l : M.1.length = 2048
  i0 : 0 ≤ ip
  i1 : ip ≤ 2032
  i8 : ip % 8 = 0
  c : fetchF M ip = x
  x0 : 0 ≤ x
  x1 : x ≤ 2040
  x8 : x % 8 = 0
  f : fetchF M x = n
  b : codeB n = true
theorem WordAt.next {M : PM} {ip x n : Int} (W : WordAt M ip x n) (a : Addr) (d r : List Int) (fu : Int) : Nexts (st a M d r ip fu) x (st a M d r (ip + 8) (fu - 1)):=by
  have H:=nexts_cell (st a M d r ip fu) rfl (show cellC M.1.length ip = 0 from cell_in W.l W.i0 (by have:=W.i1; omega) W.i8) (by show M.1.length ≤ _; rw [W.l]; decide);have e : wrap64 (ip + 8) = ip + 8:=wrap_8 W.i0 (by have:=W.i1; omega);have hx : fetchF (st a M d r ip fu).L.m (st a M d r ip fu).ip = x:=W.c;rw [hx] at H;rw [← e];exact H
theorem WordAt.kind {M : PM} {ip x n : Int} (W : WordAt M ip x n) {S : RS} (e : S.L.m = M) : IsKind S x n:=isk e W.l W.x0 W.x1 W.x8 W.f W.b
abbrev Fu (fu : Int) : Prop:=1 ≤ fu ∧ fu ≤ 1000000000
theorem s_exit (a : Addr) {M : PM} {D R : List Int} {ip x fu : Int} (W : WordAt M ip x 0) (F : Fu fu) {q : Int} (hr : R.length ≤ 30) : StepTo (st a M (D) (R ++ [q]) ip fu) (st a M (D) (R) (q) (fu - 1)) false 0:=by
  exact step_ok (S1:=st a M (D) (R ++ [q]) (ip + 8) (fu - 1)) F.1 F.2 rfl (W.next a _ _ fu) (fun X => word_own (W.kind rfl) (by decide) (own_0 (go_exit (stX a M (D) (R ++ [q]) (ip + 8) (fu - 1) X) R q rfl (by show (R ++ [q]).length ≤ _; (try simp); omega))))
theorem s_lit (a : Addr) {M : PM} {D R : List Int} {ip x fu : Int} (W : WordAt M ip x 1) (F : Fu fu) {y : Int} (hy : fetchF M (ip + 8) = y) (hd : D.length ≤ 31) : StepTo (st a M (D) (R) ip fu) (st a M (D ++ [y]) (R) (ip + 16) (fu - 1)) false 0:=by
  have e1 : wrap64 (ip + 8 + 8) = ip + 16:=by have:=W.i0; have:=W.i1; unfold wrap64; omega
  rw [← e1,← hy];exact step_ok (S1:=st a M (D) (R) (ip + 8) (fu - 1)) F.1 F.2 rfl (W.next a _ _ fu) (fun X => word_own (W.kind rfl) (by decide) (own_1 (go_lit (stX a M (D) (R) (ip + 8) (fu - 1) X) (by show cellC M.1.length (ip + 8) = 0; exact cell_in W.l (by have:=W.i0; omega) (by have:=W.i1; omega) (by have:=W.i8; omega)) (by show M.1.length ≤ _; rw [W.l]; decide) (by show (((D).length : Nat) : Int) < 32; (try simp); omega) (by show (D).length ≤ _; (try simp); omega))))
theorem s_prim (a : Addr) {M : PM} {D R D2 : List Int} {ip x fu n : Int} (W : WordAt M ip x n) (F : Fu fu) (h23 : 23 ≤ n ∧ n ≤ 129) (H : PGo n freK (stL9 M D R) freK (stL9 M D2 R)) : StepTo (st a M D R ip fu) (st a M D2 R (ip + 8) (fu - 1)) false 0:=by
  exact step_ok (S1:=st a M D R (ip + 8) (fu - 1)) F.1 F.2 rfl (W.next a _ _ fu) (fun X => word_prim (W.kind rfl) h23 H)
theorem s_halt (a : Addr) {M : PM} {D R : List Int} {ip x fu : Int} (W : WordAt M ip x 8) (F : Fu fu) : StepTo (st a M D R ip fu) (st a M D R (ip + 8) (fu - 1)) true 0:=by
  exact step_end (S1:=st a M D R (ip + 8) (fu - 1)) (S2:=st a M D R (ip + 8) (fu - 1)) F.1 F.2 rfl (W.next a _ _ fu) (fun X => word_own (W.kind rfl) (by decide) (own_8 (go_halt (stX a M D R (ip + 8) (fu - 1) X))))
theorem w_col (a : Addr) {M : PM} {D R : List Int} {ip x fu : Int} (C : M.1.length = 2048) (x0 : 0 ≤ x) (x1 : x ≤ 2040) (x8 : x % 8 = 0) (hx : fetchF M x = 256) (F : Fu fu) (hr : R.length ≤ 30) : StepTo (stW a M D R ip x fu) (st a M (D) (R ++ [ip]) (wrap64 (x + 8)) (fu - 1)) false 0:=by
  exact step_ok (S1:=st a M D R ip (fu - 1)) F.1 F.2 rfl (nexts_do (stW a M D R ip x fu) rfl) (fun X => word_256 (isk rfl C x0 x1 x8 hx (by decide)) (made_col (stX a M D R ip (fu - 1) X) x (by show (((R).length : Nat) : Int) < 32; (try simp); omega) (by show (R).length ≤ _; (try simp); omega)))


def B0 : PM:=(rowN 2048 167,[])
structure NewM (M : PM) : Prop where
  l : M.1.length = 2048
  p : M.2.length ≤ 900
  num : ∀ m : Nat,m < 130 → fetchF M (32 + 8 * (m : Int)) = (m : Int)
  halt : fetchF M 16 = 96
  caught : fetchF M 24 = 104
theorem numN_low : ∀ m : Nat,m < 130 → numN m = m:=by decide +kernel
theorem new_b0 : NewM B0:=by
  refine ⟨rowN_len 2048 167,Nat.zero_le _,fun m hm => ?_,?_,?_⟩
  · have:=fetch_num (L:=2048) (i:=m) (by decide) (by omega)
    rw [numN_low m hm] at this;rw [← this];show fetchF (rowN 2048 167,[]) _ = fetchF (rowN 2048 167,[]) _
    congr 1
    omega
  · show fetchF (rowN 2048 167,[]) ((16 : Nat) : Int) = 96
    rw [fetch_row (L:=2048) (by decide) (by decide)];decide +kernel
  · show fetchF (rowN 2048 167,[]) ((24 : Nat) : Int) = 104
    rw [fetch_row (L:=2048) (by decide) (by decide)];decide +kernel
theorem NewM.laid {M : PM} (h : NewM M) {p : Int} {l : List Int} (h0 : 1368 ≤ p) (h8 : p % 8 = 0) (hl : p + 8 + 8 * (l.length : Int) ≤ 2048) : NewM (laidM M p l):=by
  have hl' : p + 8 + 8 * (l.length : Int) ≤ M.1.length:=by rw [h.l]; exact hl
  refine ⟨(laid_len _ _ _).trans h.l,Nat.zero_le _,fun m hm => ?_,?_,?_⟩
  · rw [laid_away (by omega) h8 hl' (by omega) (.inl (by omega))]; exact h.num m hm
  · rw [laid_away (by omega) h8 hl' (by omega) (.inl (by omega))]; exact h.halt
  · rw [laid_away (by omega) h8 hl' (by omega) (.inl (by omega))]; exact h.caught
theorem NewM.word {M : PM} (h : NewM M) {ip : Int} (m : Nat) (hm : m < 130) (i0 : 0 ≤ ip) (i1 : ip ≤ 2032) (i8 : ip % 8 = 0) (hc : fetchF M ip = 32 + 8 * (m : Int)) : WordAt M ip (32 + 8 * (m : Int)) (m : Int) :=
  ⟨h.l,i0,i1,i8,hc,by omega,by omega,by omega,h.num m hm,by unfold codeB; rw [decide_eq_true_eq]; omega⟩
theorem NewM.halts {M : PM} (h : NewM M) : WordAt M 16 96 8:=h.word 8 (by decide) (by decide) (by decide) (by decide) h.halt
theorem NewM.cell {M : PM} (h : NewM M) {p : Int} {l : List Int} {x : Int} (i : Nat) (h0 : 1368 ≤ p) (h8 : p % 8 = 0) (hl : p + 8 + 8 * (l.length : Int) ≤ 2048) (hi : l[i]? = some x) (hx : cellR x) : fetchF (laidM M p l) (p + 8 + 8 * (i : Int)) = x :=
  laid_cell hi hx (by omega) h8 (by rw [h.l]; exact hl)
theorem NewM.first {M : PM} (h : NewM M) {p : Int} {l : List Int} (h0 : 1368 ≤ p) (h8 : p % 8 = 0) (hl : p + 8 + 8 * (l.length : Int) ≤ 2048) : fetchF (laidM M p l) p = 256:=laid_first (by omega) h8 (by rw [h.l]; exact hl)
theorem NewM.ok {M : PM} (h : NewM M) : M.1.length ≤ 65536 ∧ M.2.length ≤ 900:=⟨by rw [h.l]; decide,h.p⟩


theorem in_twos (w : World) (o o' : Obj) : ((w.alloc o).alloc o').heap.size = w.heap.size + 1 + 1:=by simp
theorem taking_any (t : Nat) (g : FuncId) (cs : Array Value) (w : World) :
    Calls Tryz.prog 186 #[.int .i64 (t : Int),.func (.func g) #[] cs] w fun e w' => ∃ p q : Addr,e = .returned (.func (.func 250) #[] #[.pointer (some p),.pointer (some q)]) ∧ w'.cell? p = some (.int .i64 (t : Int)) ∧ w'.cell? q = some (.func (.func g) #[] cs) ∧ (p.block < w'.heap.size ∧ q.block < w'.heap.size) ∧ Below w.heap.size w w':=by
  have hmf : ∀ (fn : Fn) (first cap : Array Value) (w : World),(Instr.makeFunc fn first cap).run Tryz.prog w = .ok (.func fn first cap) w:=fun _ _ _ _ => rfl
  go_enter Tryz.func186,Tryz.ntmps186;go_wp2;go_ret;exact ⟨_,_,rfl,by simp,by simp,⟨by simp; omega,by simp⟩,al_two _ _ _⟩
theorem reckons1 (W : World) (p : Addr) (g : FuncId) (cs : Array Value) (t : Nat) (o : List Int → List Int) (C : List Int → Int) (eg : Ent g)
    (hc : ∀ w A c x,Kp W w → Takes w t A c x → Calls Tryz.prog g (#[.slice A t c] ++ cs) w (CellOut (o x) (C x) w)) (w : World) (k : VmK) (L : VmL) (A : Option Addr) (c : Nat) (x : List Int)
    (b0 : Kp W w) (hp : w.cell? p = some (.func (.func g) #[] cs)) (hpl : p.block < w.heap.size) (h : IsVm w k L) (hx : Takes w t A c x) :
    Calls Tryz.prog 213 #[vmV k,.slice A t c,.pointer (some p)] w (ActOut ⟨C x,o x,k,L⟩ k w):=by
  go_enter Tryz.func213,Tryz.ntmps213;go_upto_region 1 with fail
  generalize hw1 : World.alloc (World.alloc _ _) _ = w1;have kb : Below w.heap.size w w1:=by rw [← hw1]; exact al_two _ _ _
  have kx : VBox w1 w.heap.size k:=by rw [← hw1]; exact (in_two w k _).2
  have kz : VBox w1 (w.heap.size + 1) vm0:=by rw [← hw1]; exact in_two0 w _
  have KS : Hid (w1.heap.size = w.heap.size + 1 + 1):=by show _ = _; rw [← hw1]; exact in_twos w _ _
  clear hw1;have hp1:=(kb.cell (p:=p) hpl).trans hp;have HC:=zqh (hc w1 A c x (kp_then b0 kb) (hx.keep kb));have X1:=zqh kx;have Z1:=zqh kz;have B1:=zqh kb;have V0:=zqh h;clear hc b0 kb kx kz h hx hp;(go_wp2_with fail);refine HC.out.mono ?_;rintro e w2 ⟨B,m,d,rfl,hr,bb⟩;have X2:=zqh (X1.out.keep bb);have Z2:=zqh (Z1.out.keep bb);have B2:=zqh (below_then B1.out bb);have HR:=zqh hr;clear HC X1 Z1 B1 bb hr;(go_wp2_with (first | (refine wpList_vload (by rfl) _ rfl w.heap.size k rfl X2.out ?_) | (refine wpList_vstore (by rfl) _ _ rfl _ vm0 k rfl rfl Z2.out ?_)));have kb2:=below_setRow B2.out (show w.heap.size ≤ w.heap.size + 1 by omega) (vmC k);refine bodyPost_ret (res_ctt rfl _ _ _ _ rfl (vrow Z2.out k)) rfl ⟨k,B,m,d,rfl,fun hz => ⟨V0.out.keep kb2,Sc.refl _,MLoc.refl _ _,?_⟩,kb2⟩;exact ((HR.out hz).row_set (by have:=KS.out; omega) _).le (by have:=KS.out; omega)
end Go.Proofs.YtcmldhjicjmmgaaGreatDoor
