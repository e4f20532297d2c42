/- Part 17. -/
import Derived.Test.YtlgnijhemfkflaaGreatDoorPaAP
import Derived.Shelf.SlicesE.Equal
import Derived.ChangeKeysEq
import Derived.Lib.QuietBelow
set_option linter.unusedVariables false
set_option linter.unusedSimpArgs false
set_option maxRecDepth 100000
set_option maxHeartbeats 4000000

namespace Go.Proofs.YtlgnijhemfkflaaGreatDoor
open Go.RowKit


theorem div_pair (H L k : Nat) (hk : 0 < k) : (H * 18446744073709551616 + L) / k = H / k * 18446744073709551616 + (H % k * 18446744073709551616 + L) / k ∧ (H * 18446744073709551616 + L) % k = (H % k * 18446744073709551616 + L) % k:=by
  have e:=Nat.div_add_mod H k;have e2 : H * 18446744073709551616 + L = k * (H / k * 18446744073709551616) + (H % k * 18446744073709551616 + L):=by
    conv => lhs; rw [← e]
    rw [Nat.add_mul,Nat.mul_assoc,Nat.add_assoc]
  rw [e2,Nat.mul_add_div hk,Nat.mul_add_mod];exact ⟨rfl,rfl⟩
theorem rest_lt (r L k : Nat) (hr : r < k) (hL : L < 18446744073709551616) : (r * 18446744073709551616 + L) / k < 18446744073709551616:=by
  rw [Nat.div_lt_iff_lt_mul (by omega)];have : (r + 1) * 18446744073709551616 ≤ k * 18446744073709551616:=Nat.mul_le_mul_right _ (by omega);rw [Nat.mul_comm 18446744073709551616 k];omega
theorem mod_low (t q : Nat) (h : q < 18446744073709551616) : (t * 18446744073709551616 + q) % 18446744073709551616 = q:=by omega
theorem div_high (t q : Nat) (h : q < 18446744073709551616) : (t * 18446744073709551616 + q) / 18446744073709551616 = t:=by omega
theorem dig_facts (lo hi : Int) (k : Nat) (h2 : 2 ≤ k) (h36 : k ≤ 36) :
    uq lo ((un hi % k : Nat) : Int) (k : Int) = lowI (pairN lo hi / k) ∧ ur lo ((un hi % k : Nat) : Int) (k : Int) = ((pairN lo hi % k : Nat) : Int) ∧ uc ((un hi % k : Nat) : Int) (k : Int) = 0 ∧ wrap64 ((un hi / k : Nat) : Int) = highI (pairN lo hi / k):=by
  have hH:=un_lt hi;have hL:=un_lt lo;obtain ⟨H,eH⟩ : ∃ H,un hi = H:=⟨_,rfl⟩;obtain ⟨L,eL⟩ : ∃ L,un lo = L:=⟨_,rfl⟩;unfold uq ur uc pairN;rw [eH] at hH ⊢;rw [eL] at hL ⊢;obtain ⟨d1,d2⟩:=div_pair H L k (by omega);have hr : H % k < k:=Nat.mod_lt _ (by omega);have hq:=rest_lt (H % k) L k hr hL;obtain ⟨r,er⟩ : ∃ r,H % k = r:=⟨_,rfl⟩;rw [er] at d1 d2 hr hq ⊢;have u1 : un (r : Int) = r:=by have:=un_mod (r : Int); omega
  have u2 : un (k : Int) = k:=by have:=un_mod (k : Int); omega
  have ok : uok (r : Int) (k : Int) = true:=by unfold uok; rw [u1,u2]; simpa using hr
  rw [ok,u1,u2,if_pos rfl,if_pos rfl,if_pos rfl,if_neg (by omega),d1,d2];obtain ⟨q,eq⟩ : ∃ q,(r * 18446744073709551616 + L) / k = q:=⟨_,rfl⟩;rw [eq] at hq ⊢;have hm : (r * 18446744073709551616 + L) % k < k:=Nat.mod_lt _ (by omega);obtain ⟨m,em⟩ : ∃ m,(r * 18446744073709551616 + L) % k = m:=⟨_,rfl⟩;rw [em] at hm ⊢;have hk : H / k < 18446744073709551616:=Nat.lt_of_le_of_lt (Nat.div_le_self _ _) hH;obtain ⟨t,et⟩ : ∃ t,H / k = t:=⟨_,rfl⟩;rw [et] at hk ⊢;refine ⟨?_,?_,rfl,?_⟩
  · unfold lowI
    rw [mod_low t q hq]
  · exact w64_id (by omega) (by omega)
  · unfold highI
    rw [div_high t q hq]
theorem byte_dig (P k : Nat) : digF ((P % k : Nat) : Int) = ((UInt8.ofNat (digN (P % k))).toNat : Int):=dig_u8 _
theorem byteI_u8 (x : UInt8) : byteI (x.toNat : Int) = x:=by
  apply UInt8.toNat_inj.1
  have:=byteI_nat (x.toNat : Int);have:=x.toNat_lt;omega
def AllInv (o : Bool) (l : List UInt8) (lo hi b : Int) (l' : List UInt8) (u : Nat) (bad : Int) : Prop :=
  (bad = 0 ∧ o = true ∧ baseB b = true ∧ l'.length ≤ 130 ∧ ∃ laid,l' = l ++ laid ∧ (u = 0 → figs lo hi b = laid.reverse) ∧ (u ≠ 0 → figs lo hi b = usF b.toNat u ++ laid.reverse)) ∨ (bad ≠ 0 ∧ l'.length ≤ 1000 ∧ allL o l lo hi b = l ∧ bad = allC o l lo hi b)
theorem base_nat {b : Int} (h : baseB b = true) : 2 ≤ b.toNat ∧ b.toNat ≤ 36:=by have:=(baseB_iff b).1 h; omega
theorem us_one (b u : Nat) : 1 ≤ (usF b u).length:=by
  have:=@us_ne b u;cases h : usF b u with
  | nil => exact absurd h this
  | cons a t => simp
theorem pall_no {o : Bool} {l : List UInt8} {lo hi b : Int} (h : allOK o l lo hi b = false) : allL o l lo hi b = l:=by unfold allL; rw [if_neg (by simp [h])]
theorem div_lt (P k : Nat) (h : P < 340282366920938463463374607431768211456) : P / k < 340282366920938463463374607431768211456:=Nat.lt_of_le_of_lt (Nat.div_le_self _ _) h
theorem digOK_yes {o : Bool} {l : List UInt8} {b : Int} (hb : baseB b = true) (hk : pOpen o l = true) : digOK o l b = true:=by unfold digOK; rw [hb,hk]; rfl
theorem inv_step {o : Bool} {l l' laid : List UInt8} {lo hi b low high : Int} (hb : baseB b = true) (ho : o = true) (hl : l' = l ++ laid) (hl' : l'.length ≤ 130)
    (hf : figs lo hi b = usF b.toNat (pairN low high) ++ laid.reverse) : AllInv o l lo hi b (digL o l' low high b) (pairN (digLo o l' low high b) (digHi o l' low high b)) (digC o l' b):=by
  obtain ⟨h2,h36⟩:=base_nat hb;cases hk : pOpen o l' with
  | true =>
    have hlt:=((pOpen_iff _ _).1 hk).2;refine .inl ⟨?_,ho,hb,?_,laid ++ [digU low high b],?_,?_,?_⟩
    · unfold digC holdC; rw [if_pos hb,if_pos hk]
    · unfold digL; rw [if_pos (digOK_yes hb hk)]; simp; omega
    · unfold digL; rw [if_pos (digOK_yes hb hk),hl]; simp
    all_goals
      unfold digLo digHi;rw [if_pos (digOK_yes hb hk),if_pos (digOK_yes hb hk),pair_back (div_lt _ _ (pairN_lt _ _)),hf];intro h
    · have hlt : pairN low high < b.toNat:=(Nat.div_eq_zero_iff_lt (by omega)).1 h
      rw [usF_low hlt];unfold digU;rw [Nat.mod_eq_of_lt hlt];simp
    · have hge : b.toNat ≤ pairN low high:=by
        rcases Nat.lt_or_ge (pairN low high) b.toNat with h' | h'
        · exact absurd ((Nat.div_eq_zero_iff_lt (by omega)).2 h') h
        · exact h'
      rw [usF_big h2 hge];unfold digU;simp
  | false =>
    have hge : 130 ≤ l'.length:=by have:=(pOpen_no _ _).1 hk; simp [ho] at this; omega
    have hno : allOK o l lo hi b = false:=by
      unfold allOK;rw [hb,hf];have:=us_one b.toNat (pairN low high);rw [hl] at hge;simp at hge ⊢;intro _;omega
    refine .inr ⟨?_,?_,pall_no hno,?_⟩
    · unfold digC holdC; rw [if_pos hb,if_neg (by simp [hk])]; omega
    · unfold digL digOK; rw [hb,hk,if_neg (by simp)]; omega
    · unfold digC holdC allC; rw [if_pos hb,if_pos hb,if_neg (by simp [hk]),hno,if_neg (by simp)]
theorem inv_start {o : Bool} {l : List UInt8} {lo hi b : Int} (hm : l.length ≤ 1000) : AllInv o l lo hi b (digL o l lo hi b) (pairN (digLo o l lo hi b) (digHi o l lo hi b)) (digC o l b):=by
  cases hb : baseB b with
  | false =>
    have hno : allOK o l lo hi b = false:=by unfold allOK; rw [hb]; rfl
    refine .inr ⟨?_,?_,pall_no hno,?_⟩
    · unfold digC; rw [if_neg (by simp [hb])]; omega
    · unfold digL digOK; rw [hb,Bool.false_and,if_neg (by simp)]; exact hm
    · unfold digC allC; rw [if_neg (by simp [hb]),if_neg (by simp [hb])]
  | true =>
    by_cases ho : o = true ∧ l.length ≤ 130
    · exact inv_step (laid:=[]) hb ho.1 (by simp) ho.2 (by unfold figs; simp)
    · have hk : pOpen o l = false:=(pOpen_no _ _).2 (fun h => ho ⟨h.1,by omega⟩)
      have hno : allOK o l lo hi b = false:=by
        unfold allOK;rw [hb];simp;intro h;have : ¬ l.length ≤ 130:=fun h' => ho ⟨h,h'⟩
        omega
      refine .inr ⟨?_,?_,pall_no hno,?_⟩
      · unfold digC holdC; rw [if_pos hb,if_neg (by simp [hk])]; omega
      · unfold digL digOK; rw [hb,hk,if_neg (by simp)]; exact hm
      · unfold digC holdC allC; rw [if_pos hb,if_pos hb,if_neg (by simp [hk]),hno,if_neg (by simp)]
theorem AllInv.next {o : Bool} {l l' : List UInt8} {lo hi b low high : Int} (h : AllInv o l lo hi b l' (pairN low high) 0) (h0 : pairN low high ≠ 0) : AllInv o l lo hi b (digL o l' low high b) (pairN (digLo o l' low high b) (digHi o l' low high b)) (digC o l' b):=by
  rcases h with ⟨_,ho,hb,hl',laid,hl,_,hf⟩ | ⟨h,_⟩
  · exact inv_step hb ho hl hl' (hf h0)
  · exact absurd rfl h
theorem AllInv.done {o : Bool} {l l' : List UInt8} {lo hi b : Int} (h : AllInv o l lo hi b l' 0 0) : l' = allL o l lo hi b ∧ allC o l lo hi b = 0:=by
  rcases h with ⟨_,ho,hb,hl',laid,hl,hf,_⟩ | ⟨h,_⟩
  · have hf:=hf rfl
    have hok : allOK o l lo hi b = true:=by
      unfold allOK;rw [hb,hf,ho];rw [hl] at hl';simp at hl' ⊢;exact hl'
    refine ⟨?_,?_⟩
    · unfold allL; rw [if_pos hok,hf,hl]; simp
    · unfold allC; rw [if_pos hb,if_pos hok]
  · exact absurd rfl h
theorem AllInv.fell {o : Bool} {l l' : List UInt8} {lo hi b bad : Int} {u : Nat} (h : AllInv o l lo hi b l' u bad) (h0 : bad ≠ 0) : allL o l lo hi b = l ∧ bad = allC o l lo hi b:=by
  rcases h with ⟨h,_⟩ | ⟨_,_,h⟩
  · exact absurd h h0
  · exact h
theorem AllInv.len {o : Bool} {l l' : List UInt8} {lo hi b bad : Int} {u : Nat} (h : AllInv o l lo hi b l' u bad) : l'.length ≤ 1000:=by
  rcases h with ⟨_,_,_,h,_⟩ | ⟨_,h,_⟩
  · omega
  · exact h
theorem digLo_cell {o : Bool} {l : List UInt8} {lo hi b : Int} (h : cellR lo) : cellR (digLo o l lo hi b):=by
  unfold digLo
  split
  · exact low_rng _
  · exact h
theorem digHi_cell {o : Bool} {l : List UInt8} {lo hi b : Int} (h : cellR hi) : cellR (digHi o l lo hi b):=by
  unfold digHi
  split
  · exact high_rng _
  · exact h
end Go.Proofs.YtlgnijhemfkflaaGreatDoor

namespace Go.Proofs.YtlgnijhemfkflaaGreatDoor
open Go.RowKit


abbrev DigOut (o : Bool) (l' : List UInt8) (a b k : Int) (w : World) (e : Ending) (w' : World) : Prop:=∃ A' n' c',e = .returned (.tuple #[.agg #[.slice A' n' c',.bool o],.int .i64 a,.int .i64 b,.int .i64 k]) ∧ Byt w' (.slice A' n' c') l' ∧ Below w.heap.size w w'
theorem dig_no {o : Bool} {l : List UInt8} {b : Int} (h : baseB b = false) (lo hi : Int) : digL o l lo hi b = l ∧ digLo o l lo hi b = lo ∧ digHi o l lo hi b = hi ∧ digC o l b = -24:=by
  unfold digL digLo digHi digC digOK;simp [h]
theorem dig_full {o : Bool} {l : List UInt8} {b : Int} (h : baseB b = true) (hk : pOpen o l = false) (lo hi : Int) : digL o l lo hi b = l ∧ digLo o l lo hi b = lo ∧ digHi o l lo hi b = hi ∧ digC o l b = -17:=by
  unfold digL digLo digHi digC digOK holdC;simp [h,hk]
theorem dig_ok {o : Bool} {l : List UInt8} {b : Int} (h : baseB b = true) (hk : pOpen o l = true) (lo hi : Int) : digL o l lo hi b = l ++ [digU lo hi b] ∧ digLo o l lo hi b = lowI (pairN lo hi / b.toNat) ∧ digHi o l lo hi b = highI (pairN lo hi / b.toNat) ∧ digC o l b = 0:=by
  unfold digL digLo digHi digC digOK holdC;simp [h,hk]
end Go.Proofs.YtlgnijhemfkflaaGreatDoor

namespace Go.Proofs.YtlgnijhemfkflaaGreatDoor
open Go.RowKit


theorem begin_any (w : World) : Calls Tryz.prog 143 #[] w fun e w' => ∃ A' n' c',e = .returned (.agg #[.slice A' n' c',.bool true]) ∧ Byt w' (.slice A' n' c') [] ∧ Below w.heap.size w w':=by
  obtain ⟨r0,r1,_,_⟩:=(pbox_new w none 0 0 true).use;go_enter Tryz.func143,Tryz.ntmps143;go_wp2;refine bodyPost_ret (v:=.agg #[.slice none 0 0,.bool true]) ?_ rfl ?_
  · simp [results,Tryz.results143,go_sem,r0,r1]
  · exact ⟨none,0,0,rfl,byt_nil _,al_one _ _⟩
end Go.Proofs.YtlgnijhemfkflaaGreatDoor

namespace Go.Proofs.YtlgnijhemfkflaaGreatDoor
open Go.RowKit


theorem wpList_vstore {ops : Array Oper} {rest : List Oper} {o : Oper} {a : Act} {Q : Exit → Act → World → Prop} {w : World} (hw : Region.wanted o (yielded ops a.tmps) = true) (x y : Operand) (ho : o.op = .store 36 x y)
    (b : Nat) (j k : VmK) (hx : a.eval x = .pointer (some ⟨b,0,none⟩)) (hy : a.eval y = vmV k) (hb : VBox w b j) (h : wpList Tryz.prog ops Q rest (a.put o.dst undef) (w.setRow b (vmC k))) : wpList Tryz.prog ops Q (o :: rest) a w :=
  wpList_step fun K hK => by
    rw [if_pos hw];exact wp_store_row 36 x y ho b (vmC k) hx hy _ _ hb vm_info rfl (vm_one k) (hK _ _ h)
end Go.Proofs.YtlgnijhemfkflaaGreatDoor

namespace Go.Proofs.YtlgnijhemfkflaaGreatDoor
open Go.RowKit


structure LFit (L : VmL) : Prop where
  m : L.m.1.length ≤ 8192
  d : L.d.length ≤ 301
  r : L.r.length ≤ 301
  f : L.f.length ≤ 70
  dict : L.dict.length ≤ 300
  o : L.o.length ≤ 6000
  e : L.e.length ≤ 20
  h : L.h.length ≤ 70
theorem fit_lens {k : VmK} {L : VmL} (f : LFit L) (l : Lens k L) : k.mn ≤ 8192 ∧ k.dn ≤ 301 ∧ k.rn ≤ 301 ∧ k.fn ≤ 70 ∧ k.wn ≤ 300 ∧ k.on ≤ 6000 ∧ k.en ≤ 20 ∧ k.hn ≤ 70:=by
  rw [← l.m,← l.d,← l.r,← l.f,← l.dict,← l.o,← l.e,← l.h];exact ⟨f.m,f.d,f.r,f.f,f.dict,f.o,f.e,f.h⟩
theorem rsame_few {w : World} {k : VmK} {L : VmL} {j : VmK} {M : VmL} (h : IsVm w k L) (h' : IsVm w j M) (f : LFit L) (g : LFit M) :
    Calls Tryz.prog 18 #[vmV k,vmV j] w fun e w' => e = .returned (.bool (vSame k L j M)) ∧ Below w.heap.size w w':=by
  obtain ⟨a1,a2,a3,a4,a5,a6,a7,a8⟩:=fit_lens f h.lens;obtain ⟨b1,b2,b3,b4,b5,b6,b7,b8⟩:=fit_lens g h'.lens;exact rvsame_any k L j M w (zqh (by omega)) h h'
theorem rsame_two {w : World} {k j : VmK} {L : VmL} (h : IsVm w k L) (h' : IsVm w j L) (s : Sc k j) (f : LFit L) :
    Calls Tryz.prog 18 #[vmV k,vmV j] w fun e w' => e = .returned (.bool true) ∧ Below w.heap.size w w':=by
  have:=rsame_few h h' f f;rw [same_self s] at this;exact this
end Go.Proofs.YtlgnijhemfkflaaGreatDoor

namespace Go.Proofs.YtlgnijhemfkflaaGreatDoor
open Go.RowKit


def CfBox (w : World) (b : Nat) (m d r v o : Int) : Prop:=w.heap[b]? = some (.cells #[.int .i64 m,.int .i64 d,.int .i64 r,.int .i64 v,.int .i64 o] 23 (0,0))
theorem CfBox.lt {w : World} {b : Nat} {m d r v o : Int} (h : CfBox w b m d r v o) : b < w.heap.size:=(Array.getElem?_eq_some_iff.1 h).1
theorem CfBox.keep {w w' : World} {b : Nat} {m d r v o : Int} (h : CfBox w b m d r v o) (x : Below w.heap.size w w') : CfBox w' b m d r v o:=(x.block b h.lt).trans h
theorem CfBox.use {w : World} {b : Nat} {m d r v o : Int} (h : CfBox w b m d r v o) : w.cell? ⟨b,0,none⟩ = some (.int .i64 m) ∧ w.cell? ⟨b,1,none⟩ = some (.int .i64 d) ∧ w.cell? ⟨b,2,none⟩ = some (.int .i64 r) ∧ w.cell? ⟨b,3,none⟩ = some (.int .i64 v) ∧ w.cell? ⟨b,4,none⟩ = some (.int .i64 o):=by
  unfold CfBox at h;refine ⟨?_,?_,?_,?_,?_⟩ <;> simp [World.cell?,h]
end Go.Proofs.YtlgnijhemfkflaaGreatDoor

namespace Go.Proofs.YtlgnijhemfkflaaGreatDoor
open Go.RowKit


def endB (L : Nat) (h : Int) : Bool:=decide (0 ≤ h ∧ h ≤ (L : Int))
theorem endB_iff (L : Nat) (h : Int) : endB L h = true ↔ (0 ≤ h ∧ h ≤ (L : Int)):=by unfold endB; simp
def movB (L : Nat) (low here n : Int) : Bool:=decide (low - here ≤ n ∧ n ≤ (L : Int) - here)
theorem movB_iff (L : Nat) (low here n : Int) : movB L low here n = true ↔ (low - here ≤ n ∧ n ≤ (L : Int) - here):=by unfold movB; simp
theorem movB_no (L : Nat) (low here n : Int) : movB L low here n = false ↔ ¬ (low - here ≤ n ∧ n ≤ (L : Int) - here):=by unfold movB; rw [decide_eq_false_iff_not]
def movP (L : Nat) (low here n : Int) : Int:=if movB L low here n = true then here + n else here
def movC (L : Nat) (low here n : Int) : Int:=if movB L low here n = true then 0 else -8
def roomBC (L : Nat) (p : Int) (k : Nat) : Bool:=decide ((k : Int) ≤ (L : Int) - p)
theorem roomB_iff (L : Nat) (p : Int) (k : Nat) : roomBC L p k = true ↔ (k : Int) ≤ (L : Int) - p:=by unfold roomBC; simp
theorem roomB_no (L : Nat) (p : Int) (k : Nat) : roomBC L p k = false ↔ ¬ (k : Int) ≤ (L : Int) - p:=by unfold roomBC; rw [decide_eq_false_iff_not]
theorem room_ok {L : Nat} {p : Int} {k : Nat} (he : endB L p = true) (h : roomBC L p k = true) : okB L p k = true:=by
  rw [endB_iff] at he;rw [roomB_iff] at h;rw [okB_iff];omega
def layM (m : PM) (p : Int) (b : List UInt8) : PM:=if roomBC m.1.length p b.length = true then writeF m p b else m
def layP (L : Nat) (p : Int) (k : Nat) : Int:=if roomBC L p k = true then p + k else p
def layC (L : Nat) (p : Int) (k : Nat) : Int:=if roomBC L p k = true then 0 else -8
def misN (p : Int) : Nat:=((8 - p % 8) % 8).toNat
theorem misN_int (p : Int) : (misN p : Int) = (8 - p % 8) % 8:=by unfold misN; omega
theorem misN_lt (p : Int) : misN p < 8:=by unfold misN; omega
def comM (m : PM) (p n : Int) : PM:=if p % 8 = 0 then layM m p (cellBytes n) else m
def comP (L : Nat) (p : Int) : Int:=if p % 8 = 0 then layP L p 8 else p
def comC (L : Nat) (p : Int) : Int:=if p % 8 = 0 then layC L p 8 else -23
def upB (p : Int) : List UInt8:=List.replicate (misN p) 0
theorem upB_len (p : Int) : (upB p).length = misN p:=by simp [upB]
theorem left_any (A P : Option Addr) (L c K d : Nat) (h : Int) (w : World) (hL : L ≤ 65536) (h0 : 0 ≤ h) (h1 : h ≤ (L : Int)) :
    Calls Tryz.prog 227 #[.agg #[.slice A L c,.slice P K d,.int .i64 h]] w fun e w' => e = .returned (.int .i64 ((L : Int) - h)) ∧ Below w.heap.size w w':=by
  go_enter Tryz.func227,Tryz.ntmps227;go_wp2;go_ret;exact ⟨rfl,(Below.refl _ _).alloc (Nat.le_refl _) _⟩
theorem missing_any (p : Int) (w : World) (h0 : 0 ≤ p) (h1 : p ≤ 65536) :
    Calls Tryz.prog 228 #[.int .i64 p] w fun e w' => e = .returned (.int .i64 (misN p : Int)) ∧ Below w.heap.size w w':=by
  have HM : Hid ((8 - p % 8) % 8 = (misN p : Int)):=(misN_int p).symm;go_enter Tryz.func228,Tryz.ntmps228;go_wp2;go_ret;exact ⟨ret_int HM.out,Below.refl _ _⟩
theorem movP_yes {L : Nat} {low p n : Int} (h : movB L low p n = true) : movP L low p n = p + n:=by unfold movP; rw [if_pos h]
theorem movP_no {L : Nat} {low p n : Int} (h : movB L low p n = false) : movP L low p n = p:=by unfold movP; rw [if_neg (by simp [h])]
theorem movC_yes {L : Nat} {low p n : Int} (h : movB L low p n = true) : movC L low p n = 0:=by unfold movC; rw [if_pos h]
theorem movC_no {L : Nat} {low p n : Int} (h : movB L low p n = false) : movC L low p n = -8:=by unfold movC; rw [if_neg (by simp [h])]
theorem allot_at (A P : Option Addr) (L c K d : Nat) (low p n : Int) (w : World) (hL : L ≤ 65536) (hp : endB L p = true) (hl : endB L low = true) :
    Calls Tryz.prog 123 #[.agg #[.slice A L c,.slice P K d],.int .i64 low,.int .i64 p,.int .i64 n] w fun e w' => e = .returned (.tuple #[.int .i64 (movP L low p n),.int .i64 (movC L low p n)]) ∧ Below w.heap.size w w':=by
  have hmf : ∀ (fn : Fn) (first cap : Array Value) (w : World),(Instr.makeFunc fn first cap).run Tryz.prog w = .ok (.func fn first cap) w:=fun _ _ _ _ => rfl
  obtain ⟨p0,p1⟩:=(endB_iff _ _).1 hp;obtain ⟨l0,l1⟩:=(endB_iff _ _).1 hl;clear hp hl
  by_cases h1 : n < low - p
  · have HE : Hid (movB L low p n = false):=(movB_no _ _ _ _).2 (by omega)
    go_enter Tryz.func123,Tryz.ntmps123;go_wp2;go_ret2;exact ⟨ret_two (movP_no HE.out).symm (movC_no HE.out).symm,(Below.refl _ _).alloc (Nat.le_refl _) _⟩
  · have h1' : decide (n < low - p) = false:=by simp; omega
    by_cases h2 : (L : Int) - p < n
    · have HE : Hid (movB L low p n = false):=(movB_no _ _ _ _).2 (by omega)
      clear h1;go_enter Tryz.func123,Tryz.ntmps123;(go_wp2_with (go_at_call 227; (with_reducible refine (left_any _ _ _ _ _ _ _ _ hL p0 p1).mono ?_); rintro e w1 ⟨rfl,b1⟩));go_ret2;exact ⟨ret_two (movP_no HE.out).symm (movC_no HE.out).symm,box_below b1⟩
    · have HE : Hid (movB L low p n = true):=(movB_iff _ _ _ _).2 (by omega)
      have h2' : decide ((L : Int) - p < n) = false:=by simp; omega
      have h3 : 0 ≤ p + n:=by omega
      have h4 : p + n ≤ 65536:=by omega
      clear h1 h2;go_enter Tryz.func123,Tryz.ntmps123;(go_wp2_with (go_at_call 227; (with_reducible refine (left_any _ _ _ _ _ _ _ _ hL p0 p1).mono ?_); rintro e w1 ⟨rfl,b1⟩));go_ret2;exact ⟨ret_two (movP_yes HE.out).symm (movC_yes HE.out).symm,box_below b1⟩
end Go.Proofs.YtlgnijhemfkflaaGreatDoor

namespace Go.Proofs.YtlgnijhemfkflaaGreatDoor
open Go.RowKit


theorem layM_yes {m : PM} {p : Int} {b : List UInt8} (h : roomBC m.1.length p b.length = true) : layM m p b = writeF m p b:=by unfold layM; rw [if_pos h]
theorem layM_no {m : PM} {p : Int} {b : List UInt8} (h : roomBC m.1.length p b.length = false) : layM m p b = m:=by unfold layM; rw [if_neg (by simp [h])]
theorem layP_yes {L : Nat} {p : Int} {k : Nat} (h : roomBC L p k = true) : layP L p k = p + k:=by unfold layP; rw [if_pos h]
theorem layP_no {L : Nat} {p : Int} {k : Nat} (h : roomBC L p k = false) : layP L p k = p:=by unfold layP; rw [if_neg (by simp [h])]
theorem layC_yes {L : Nat} {p : Int} {k : Nat} (h : roomBC L p k = true) : layC L p k = 0:=by unfold layC; rw [if_pos h]
theorem layC_no {L : Nat} {p : Int} {k : Nat} (h : roomBC L p k = false) : layC L p k = -8:=by unfold layC; rw [if_neg (by simp [h])]
theorem lay_no (A P A2 : Option Addr) (L c K d n c2 : Nat) (p : Int) (w : World) (hL : L ≤ 65536) (hp : endB L p = true) (hn : n ≤ 9223372036854775807) (hno : roomBC L p n = false) :
    Calls Tryz.prog 128 #[.agg #[.slice A L c,.slice P K d],.int .i64 p,.slice A2 n c2] w fun e w' => e = .returned (.tuple #[.agg #[.slice A L c,.slice P K d],.int .i64 p,.int .i64 (-8)]) ∧ Below w.heap.size w w':=by
  have hmf : ∀ (fn : Fn) (first cap : Array Value) (w : World),(Instr.makeFunc fn first cap).run Tryz.prog w = .ok (.func fn first cap) w:=fun _ _ _ _ => rfl
  obtain ⟨p0,p1⟩:=(endB_iff _ _).1 hp;have h1 : (L : Int) - p < (n : Int):=by have:=(roomB_no _ _ _).1 hno; omega
  clear hp hno;go_enter Tryz.func128,Tryz.ntmps128;(go_wp2_with fail);refine (left_any _ _ _ _ _ _ _ _ hL p0 p1).mono ?_;rintro e w1 ⟨rfl,b1⟩;have F1:=zqh (fr_two b1);obtain ⟨q0,q1,_,_⟩:=(fr_two b1).2.1.use;obtain ⟨q2,q3,q4,q5⟩:=(fr_two b1).2.2.use;clear b1;(go_wp2_with fail);refine bodyPost_ret (v:=.tuple #[.agg #[.slice A L c,.slice P K d],.int .i64 p,.int .i64 (-8)]) ?_ rfl ?_
  · obtain ⟨r0,r1⟩:=F1.out.2.2.got (.slice A L c) (.slice P K d)
    simp [results,Tryz.results128,go_sem,r0,r1]
  · exact ⟨rfl,F1.out.put _ _⟩
end Go.Proofs.YtlgnijhemfkflaaGreatDoor

namespace Go.Proofs.YtlgnijhemfkflaaGreatDoor
open Go.RowKit


theorem comM_yes {m : PM} {p n : Int} (h : p % 8 = 0) : comM m p n = layM m p (cellBytes n):=by unfold comM; rw [if_pos h]
theorem comM_no {m : PM} {p n : Int} (h : p % 8 ≠ 0) : comM m p n = m:=by unfold comM; rw [if_neg h]
theorem comP_yes {L : Nat} {p : Int} (h : p % 8 = 0) : comP L p = layP L p 8:=by unfold comP; rw [if_pos h]
theorem comP_no {L : Nat} {p : Int} (h : p % 8 ≠ 0) : comP L p = p:=by unfold comP; rw [if_neg h]
theorem comC_yes {L : Nat} {p : Int} (h : p % 8 = 0) : comC L p = layC L p 8:=by unfold comC; rw [if_pos h]
theorem comC_no {L : Nat} {p : Int} (h : p % 8 ≠ 0) : comC L p = -23:=by unfold comC; rw [if_neg h]
theorem mis_no {p : Int} (h : p % 8 = 0) : ((misN p : Int) != 0) = false:=by rw [misN_int]; simp; omega
theorem mis_yes {p : Int} (h : p % 8 ≠ 0) : ((misN p : Int) != 0) = true:=by rw [misN_int]; simp; omega
end Go.Proofs.YtlgnijhemfkflaaGreatDoor

namespace Go.Proofs.YtlgnijhemfkflaaGreatDoor
open Go.RowKit


theorem wpList_bgrow {ops : Array Oper} {rest : List Oper} {o : Oper} {a : Act} {Q : Exit → Act → World → Prop} {w : World} (hgd : o.guard = none) (s x : Operand)
    (ho : o.op = .call { callee:=.builtin .append,args:=#[s,x],argTypes:=#[24,24] })
    (A : Option Addr) (n c : Nat) (l : List UInt8) (hs : a.eval s = .slice A n n) (hy : Byt w (.slice A n c) l)
    (g : Nat) (z : List UInt8) (hx : a.eval x = .slice (some ⟨g,0,none⟩) 1 1) (hz : Byt w (.slice (some ⟨g,0,none⟩) 1 1) z) (hn : n ≤ 1000)
    (h : ∀ v' w',BOwns w' w.heap.size v' (n + 1) (l ++ z) → Below w.heap.size w w' → wpList Tryz.prog ops Q rest (a.put o.dst v') w') : wpList Tryz.prog ops Q (o :: rest) a w:=by
  obtain ⟨i0,hi,hz0,hz1,hz2⟩:=info_parts info_u8;have hl:=hy.len;have hzl:=hz.len;have hli:=hy.lies;have hlz:=hz.lies;refine wpList_append_grows w hgd s x _ ho 5 i0 (.int .u8 0) 1 1 Tryz.underlying24 hi hz0 hz1 hz2 rfl (by decide) A n n (u8s l) hs ?_ (by rw [u8s_len,hl,Nat.mul_one]) ?_ ⟨g,0,none⟩ 1 1 (u8s z) hx (by rw [u8s_len,hzl]) ?_ (u8s_one z) (by omega) (by unfold maxLen; omega) (by omega) fun v' w' h1 h2 => h v' w' ?_ ?_
  · intro e
    subst e
    rcases hli with hli | ⟨_,_,e,_⟩
    · have:=congrArg List.length hli
      rw [u8s_len] at this;have h0 : l.length = 0:=this;omega
    · cases e
  · intro b hb j u hu
    rcases hli with hli | ⟨g2,o2,e,_,hc⟩
    · rw [hli] at hu; simp at hu
    · rw [hb] at e
      injection e with e
      rw [e,add_at];exact hc j u hu
  · intro j u hu
    rcases hlz with hli | ⟨g2,o2,e,_,hc⟩
    · rw [hli] at hu; simp at hu
    · injection e with e
      rw [e,add_at];exact hc j u hu
  · have e:=u8s_app l z
    unfold BOwns;rw [e];exact h1
  · exact (Below.refl _ w).grown h2 (Nat.le_refl _) (fun k hk => by cases hk)
def fullAt (A : Option Addr) (n : Nat) : Option Addr:=if n = 0 then A else A.map (·.add (0 * 1))
theorem Byt.full {w : World} {A : Option Addr} {n c : Nat} {l : List UInt8} (h : Byt w (.slice A n c) l) : Byt w (.slice (fullAt A n) n n) l:=by
  have hl:=h.len;subst hl;obtain ⟨A',c',e,h1,h2,h4⟩:=h;injection e with e1 e2 e3
  subst e1 e3;refine ⟨_,_,rfl,Nat.le_refl _,by omega,?_⟩
  rcases h4 with h4 | ⟨g,o,rfl,hg,hc⟩
  · exact .inl h4
  · unfold fullAt
    split
    · exact .inr ⟨g,o,rfl,hg,hc⟩
    · exact .inr ⟨g,o,by simp [add_at],hg,hc⟩
theorem Byt.room {w : World} {A : Option Addr} {n c : Nat} {l : List UInt8} (h : Byt w (.slice A n c) l) : n ≤ c:=by
  have hl:=h.len;obtain ⟨A',c',e,h1,_⟩:=h;injection e with e1 e2 e3
  omega
theorem run_full {A : Option Addr} {n c : Nat} (w : World) (hc : n ≤ c) :
    (Instr.slice 24 (.slice A n c) none (some (.int .i64 (n : Int))) (some (.int .i64 (n : Int)))).run Tryz.prog w = .ok (.slice (fullAt A n) n n) w:=by
  have hz : (sizeOf 5).run Tryz.prog w = .ok 1 w:=by kernel_rfl
  simp [Instr.slice,run_underlying Tryz.underlying24,Instr.sliceBounds,run_sliceBound,hc,hz,fullAt]
theorem hold_any (A : Option Addr) (n c : Nat) (o : Bool) (l : List UInt8) (x : Int) (w : World) (h : Byt w (.slice A n c) l) (hm : l.length ≤ 1000) :
    Calls Tryz.prog 148 #[.agg #[.slice A n c,.bool o],.int .i64 x] w (PicOut o (holdL o l x) (holdC o l) w):=by
  have hl:=h.len;cases hk : pOpen o l with
  | false =>
    have hno:=(pOpen_no _ _).1 hk;have H1 : Hid (holdL o l x = l):=by show _ = _; unfold holdL; rw [if_neg (by simp [hk])]
    have H2 : Hid (holdC o l = -17):=by show _ = _; unfold holdC; rw [if_neg (by simp [hk])]
    have HB:=zqh (al_two w (.cells #[.slice A n c,.bool o] 32) (.cells #[.slice A n c,.bool o] 32));have HY:=zqh (h.keep HB.out);have hb : PBox _ _ _ _ _ _ ∧ PBox _ _ _ _ _ _:=box_two w (.slice A n c) (.bool o) (.slice A n c) (.bool o) 32 32;obtain ⟨b3,b4,_,_⟩:=hb.2.use;clear hb;rw [H1.out,H2.out];unfold PicOut;cases o with
    | false =>
      clear h hl hk hno;go_enter Tryz.func148,Tryz.ntmps148;go_wp2;refine bodyPost_ret (v:=.tuple #[.agg #[.slice A n c,.bool false],.int .i64 (-17)]) ?_ rfl ?_
      · simp [results,Tryz.results148,go_sem,b3,b4]
      · exact ⟨A,n,c,rfl,HY.out,HB.out⟩
    | true =>
      have h1 : (130 : Int) ≤ (n : Int):=by have:=hl; simp at hno; omega
      clear h hl hk hno;go_enter Tryz.func148,Tryz.ntmps148;go_wp2;refine bodyPost_ret (v:=.tuple #[.agg #[.slice A n c,.bool true],.int .i64 (-17)]) ?_ rfl ?_
      · simp [results,Tryz.results148,go_sem,b3,b4]
      · exact ⟨A,n,c,rfl,HY.out,HB.out⟩
  | true =>
    obtain ⟨rfl,hlt⟩:=(pOpen_iff _ _).1 hk;have H1 : Hid (holdL true l x = l ++ [byteI x]):=by show _ = _; unfold holdL; rw [if_pos hk]
    have H2 : Hid (holdC true l = 0):=by show _ = _; unfold holdC; rw [if_pos hk]
    obtain ⟨o1,ho1⟩ : ∃ o1 : Obj,.cells #[.slice A n c,.bool true] 32 = o1:=⟨_,rfl⟩;obtain ⟨o2,ho2⟩ : ∃ o2 : Obj,.cells #[.slice none 0 0,.bool false] 32 = o2:=⟨_,rfl⟩;obtain ⟨W,hW⟩ : ∃ W,(w.alloc o1).alloc o2 = W:=⟨_,rfl⟩;have k2:=al_two w o1 o2;have hs : W.heap.size = w.heap.size + 1 + 1:=by rw [← hW]; simp
    have hy:=h.keep (k2.trans ((al_one _ (.cells #[.int .u8 (x % 256)] 5)).mono k2.size));have hb : PBox ((w.alloc o1).alloc o2) w.heap.size A n c true ∧ PBox ((w.alloc o1).alloc o2) (w.heap.size + 1) none 0 0 false:=by rw [← ho1,← ho2]; exact box_two _ _ _ _ _ _ _
    rw [hW] at k2 hy hb;have HB:=zqh k2;have HY:=zqh hy;have HX:=zqh hb.2;have HS:=zqh hs;have HW:=zqh hW;have hn : decide ((130 : Int) ≤ (n : Int)) = false:=by simp; omega
    have HN : Hid (n < 130 ∧ l.length = n):=⟨by omega,hl⟩;have HF:=zqh hy.full;have hlow:=byt_low W x;rw [hs] at hlow;have HL:=zqh hlow;clear hlow;have hrf : ∀ w,_:=fun w => run_full (A:=A) (n:=n) (c:=c) w hy.room
    rw [H1.out,H2.out];unfold PicOut;clear h hl hk k2 hb hy hlt hW hs;subst ho1 ho2;go_enter Tryz.func148,Tryz.ntmps148
    go_wp2_with (at_builtin; first
      | (rw [HW.out]
         refine wpList_bgrow rfl _ _ rfl (fullAt A n) n n l rfl HF.out (w.heap.size + 1 + 1) [byteI x] rfl HL.out (by have:=HN.out.1; omega) ?_;intro v2 w2 u1 u2;obtain ⟨A2,n2,c2,rfl⟩:=byt_slice u1.byt;have u3:=below_then (al_one W (.cells #[.int .u8 (x % 256)] 5)) u2;have O2:=zqh u1;have B2:=zqh u3;have X2:=zqh (HX.out.keep u3);obtain ⟨b3,b4,b5,b6⟩:=X2.out.use;have l3:=X2.out.lt
         clear u1 u2 u3 HY HF hrf))
    have X3 : PBox ((w2.setCell ⟨w.heap.size + 1,0,none⟩ (.slice A2 n2 c2)).setCell ⟨w.heap.size + 1,1,none⟩ (.bool true)) (w.heap.size + 1) A2 n2 c2 true:=X2.out.put _ _;obtain ⟨r0,r1,_,_⟩:=X3.use;refine bodyPost_ret (v:=.tuple #[.agg #[.slice A2 n2 c2,.bool true],.int .i64 0]) ?_ rfl ?_
    · simp [results,Tryz.results148,go_sem,r0,r1]
    · refine ⟨A2,n2,c2,rfl,?_,?_⟩
      · exact (O2.out.pset (b:=w.heap.size + 1) (by have:=HS.out; simp; omega) (.slice A2 n2 c2) (.bool true)).byt
      · exact below_pset (below_then HB.out B2.out) (by omega) _ _
theorem sign_any (A : Option Addr) (n c : Nat) (o : Bool) (l : List UInt8) (x : Int) (w : World) (h : Byt w (.slice A n c) l) (hm : l.length ≤ 1000) :
    Calls Tryz.prog 149 #[.agg #[.slice A n c,.bool o],.int .i64 x] w (PicOut o (signL o l x) (signC o l x) w):=by
  by_cases h0 : 0 ≤ x
  · have H1 : Hid (signL o l x = l):=by show _ = _; unfold signL; rw [if_neg (by omega)]
    have H2 : Hid (signC o l x = 0):=by show _ = _; unfold signC; rw [if_neg (by omega)]
    have HB:=zqh (al_two w (.cells #[.slice A n c,.bool o] 32) (.cells #[.slice A n c,.bool o] 32));have HY:=zqh (h.keep HB.out);have hb : PBox _ _ _ _ _ _ ∧ PBox _ _ _ _ _ _:=box_two w (.slice A n c) (.bool o) (.slice A n c) (.bool o) 32 32;obtain ⟨b3,b4,_,_⟩:=hb.2.use;rw [H1.out,H2.out];clear h hb;go_enter Tryz.func149,Tryz.ntmps149;go_wp2;refine bodyPost_ret (v:=.tuple #[.agg #[.slice A n c,.bool o],.int .i64 0]) ?_ rfl ?_
    · simp [results,Tryz.results149,go_sem,b3,b4]
    · exact ⟨A,n,c,rfl,HY.out,HB.out⟩
  · have H1 : Hid (signL o l x = holdL o l 45):=by show _ = _; unfold signL; rw [if_pos (by omega)]
    have H2 : Hid (signC o l x = holdC o l):=by show _ = _; unfold signC; rw [if_pos (by omega)]
    have h0' : decide (0 ≤ x) = false:=by simp; omega
    obtain ⟨o1,ho1⟩ : ∃ o1 : Obj,.cells #[.slice A n c,.bool o] 32 = o1:=⟨_,rfl⟩;obtain ⟨o2,ho2⟩ : ∃ o2 : Obj,.cells #[.slice none 0 0,.bool false] 32 = o2:=⟨_,rfl⟩;obtain ⟨W,hW⟩ : ∃ W,(w.alloc o1).alloc o2 = W:=⟨_,rfl⟩;have k2:=al_two w o1 o2;have hb : PBox ((w.alloc o1).alloc o2) w.heap.size A n c o ∧ PBox ((w.alloc o1).alloc o2) (w.heap.size + 1) none 0 0 false:=by rw [← ho1,← ho2]; exact box_two _ _ _ _ _ _ _
    rw [hW] at k2 hb;have HB:=zqh k2;have HX:=zqh hb.2;have HW:=zqh hW;have HH:=zqh (hold_any A n c o l 45 W (h.keep k2) hm);rw [H1.out,H2.out];clear h h0 k2 hb hW;subst ho1 ho2;go_enter Tryz.func149,Tryz.ntmps149;(go_wp2_with fail);rw [HW.out];refine HH.out.mono ?_;rintro e w1 ⟨A2,n2,c2,rfl,hy,bb⟩;have HY:=zqh hy;have B2:=zqh bb;have X2:=zqh (HX.out.keep bb);obtain ⟨b3,b4,b5,b6⟩:=X2.out.use;have l3:=X2.out.lt;clear hy bb HH;(go_wp2_with fail);have X3 : PBox ((w1.setCell ⟨w.heap.size + 1,0,none⟩ (.slice A2 n2 c2)).setCell ⟨w.heap.size + 1,1,none⟩ (.bool o)) (w.heap.size + 1) A2 n2 c2 o:=X2.out.put _ _;obtain ⟨r0,r1,_,_⟩:=X3.use;refine bodyPost_ret (v:=.tuple #[.agg #[.slice A2 n2 c2,.bool o],.int .i64 (holdC o l)]) ?_ rfl ?_
    · simp [results,Tryz.results149,go_sem,r0,r1]
    · exact ⟨A2,n2,c2,rfl,byt_pset HY.out X2.out _ _,below_pset (below_then HB.out B2.out) (by omega) _ _⟩
end Go.Proofs.YtlgnijhemfkflaaGreatDoor
