/- Part 6. -/
import Derived.Test.YtlgnijhemfkflaaGreatDoorPaAE
import Derived.Shelf.SlicesE.Reverse
import Derived.Shelf.Small.Bits
import Derived.Shelf.Strconv.Itoa0
import Derived.Shelf.Spec.BitsCarry
set_option linter.unusedVariables false
set_option linter.unusedSimpArgs false
set_option maxRecDepth 100000
set_option maxHeartbeats 4000000

namespace Go.Proofs.YtlgnijhemfkflaaGreatDoor
open Go.RowKit


theorem dall_take {p : UInt8 → Bool} {l : List UInt8} {k : Nat} {c : UInt8} (h : (l.take k).all p = true) (hc : l[k]? = some c) (hp : p c = true) : (l.take (k + 1)).all p = true:=by
  rw [List.take_add_one,hc,List.all_append,h];simp [hp]
theorem dall_no {p : UInt8 → Bool} {l : List UInt8} {k : Nat} {c : UInt8} (hc : l[k]? = some c) (hp : p c = false) : l.all p = false:=by
  rw [List.all_eq_false];exact ⟨c,List.mem_of_getElem? hc,by simp [hp]⟩
theorem rnamed_any (l : List UInt8) (w : World) : Calls Tryz.prog 71 #[.string (strB l)] w fun e w' => e = .returned (.int .i64 (namedC l)) ∧ w = w':=by
  have hsz : (strB l).size = l.length:=rfl
  by_cases h0 : l = []
  · have H : Hid (namedC l = -16):=by show _ = _; unfold namedC; rw [if_pos h0]
    rw [H.out];subst h0;have hsz0 : (strB []).size = 0:=rfl;clear hsz;go_enter Tryz.func71,Tryz.ntmps71;go_wp2;go_ret;exact ⟨rfl,rfl⟩
  · have hl0 : ((l.length : Int) == 0) = false:=by
      cases l with
      | nil => exact absurd rfl h0
      | cons c r => simp; omega
    by_cases h31 : 31 < l.length
    · have H : Hid (namedC l = -19):=by show _ = _; unfold namedC; rw [if_neg h0,if_pos h31]
      rw [H.out];have h31' : (31 : Int) < (l.length : Int):=by omega
      clear h0 h31;go_enter Tryz.func71,Tryz.ntmps71;go_wp2;go_ret;exact ⟨rfl,rfl⟩
    · have h31' : decide ((31 : Int) < (l.length : Int)) = false:=by simp; omega
      have hl31 : l.length ≤ 31:=by omega
      have HC : Hid (namedC l = if l.all solid = true then 0 else -32):=by show _ = _; unfold namedC; rw [if_neg h0,if_neg h31]
      clear h0 h31;go_enter Tryz.func71,Tryz.ntmps71;(go_wp2_with fail)
      go_loopw [3] (fun s3 wr => ∃ (k : Nat),s3 = .int .i64 (k : Int) ∧ k ≤ l.length ∧ Hid ((l.take k).all solid = true) ∧ w = wr) (fun s3 _ => l.length - (intOf s3).toNat)
      case atStart => exact ⟨0,rfl,Nat.zero_le _,zqh rfl,rfl⟩
      case round =>
        obtain ⟨k,rfl,hk,HT,rfl⟩:=hrel
        by_cases hkl : k < l.length
        · have hkl' : (k : Int) < (l.length : Int):=by omega
          obtain ⟨c,hc⟩ : ∃ c,l[k]? = some c:=⟨_,List.getElem?_eq_getElem hkl⟩;have ixk:=ix_at l k c hc
          by_cases h32 : 32 < c.toNat
          · have h32' : decide ((c.toNat : Int) ≤ 32) = false:=by simp; omega
            have HN:=zqh (dall_take HT.out hc (solid_yes h32));clear hc h32 HT;(go_wp2_with fail)
            go_roundw
            case rel => exact ⟨k + 1,by simp,by omega,HN,(by first | rfl | trivial)⟩
            case measure => simp [intOf]; omega
          · have h32' : (c.toNat : Int) ≤ 32:=by omega
            have HN:=zqh (dall_no hc (solid_no h32));have H : Hid (namedC l = -32):=by show _ = _; rw [HC.out,HN.out]; rfl
            clear hc h32 HT;(go_wp2_with fail);go_ret;exact ⟨by rw [H.out]; rfl,rfl⟩
        · obtain rfl : k = l.length:=by omega
          rw [List.take_length] at HT;have H : Hid (namedC l = 0):=by show _ = _; rw [HC.out,HT.out]; rfl
          clear hkl hk;(go_wp2_with fail);go_ret;exact ⟨by rw [H.out]; rfl,rfl⟩
end Go.Proofs.YtlgnijhemfkflaaGreatDoor

namespace Go.Proofs.YtlgnijhemfkflaaGreatDoor
open Go.RowKit


def WBox (w : World) (b : Nat) (q : Wr) : Prop:=w.heap[b]? = some (.cells #[.string (strB q.nm),.int .i64 q.xt,.int .i64 q.fl] 120 (0,0))
theorem WBox.lt {w : World} {b : Nat} {q : Wr} (h : WBox w b q) : b < w.heap.size:=(Array.getElem?_eq_some_iff.1 h).1
theorem WBox.keep {w w' : World} {b : Nat} {q : Wr} (h : WBox w b q) (k : Below w.heap.size w w') : WBox w' b q:=(k.block b h.lt).trans h
theorem WBox.use {w : World} {b : Nat} {q : Wr} (h : WBox w b q) : w.cell? ⟨b,0,none⟩ = some (.string (strB q.nm)) ∧ w.cell? ⟨b,1,none⟩ = some (.int .i64 q.xt) ∧ w.cell? ⟨b,2,none⟩ = some (.int .i64 q.fl) ∧ w.frozen? ⟨b,0,none⟩ = false ∧ w.frozen? ⟨b,1,none⟩ = false ∧ w.frozen? ⟨b,2,none⟩ = false:=by
  unfold WBox at h;refine ⟨?_,?_,?_,?_,?_,?_⟩ <;> simp [World.cell?,World.frozen?,h]
theorem WBox.put {w : World} {b : Nat} {q : Wr} (h : WBox w b q) (q' : Wr) : WBox (((w.setCell ⟨b,0,none⟩ (.string (strB q'.nm))).setCell ⟨b,1,none⟩ (.int .i64 q'.xt)).setCell ⟨b,2,none⟩ (.int .i64 q'.fl)) b q':=by
  have h1:=Go.Joins.block_setCell (i:=0) h (.string (strB q'.nm));have h2:=Go.Joins.block_setCell (i:=1) h1 (.int .i64 q'.xt);have h3:=Go.Joins.block_setCell (i:=2) h2 (.int .i64 q'.fl);simpa [WBox] using h3
end Go.Proofs.YtlgnijhemfkflaaGreatDoor

namespace Go.Proofs.YtlgnijhemfkflaaGreatDoor
open Go.RowKit


theorem right_no {l : List Wr} {q : Wr} (hq : q ∈ l) (h : wordB q = false) : dRight l = false:=by
  unfold dRight;rw [show l.all wordB = false from by rw [List.all_eq_false]; exact ⟨q,hq,by simp [h]⟩];rfl
theorem rright_anyL (A : Option Addr) (n c : Nat) (l : List Wr) (w : World) (h : Wds w (.slice A n c) l) (hn : n ≤ 1000000) : Calls Tryz.prog 39 #[.slice A n c] w fun e w' => e = .returned (.bool (dRight l)) ∧ Below w.heap.size w w':=by
  have hl:=h.len;subst hl;have HA:=zqh h;clear h;go_enter Tryz.func39,Tryz.ntmps39;(go_wp2_with fail)
  go_loopw [3] (fun s5 wr => ∃ (k : Nat),s5 = .int .i64 (k : Int) ∧ k ≤ l.length ∧ Hid ((l.take k).all wordB = true) ∧ Hid (Below w.heap.size w wr)) (fun s5 _ => l.length - (intOf s5).toNat)
  case atStart => exact ⟨0,rfl,Nat.zero_le _,zqh rfl,zqh (Below.refl _ _)⟩
  case round =>
    obtain ⟨k,rfl,hk,HT,HB⟩:=hrel
    by_cases hkl : k < l.length
    · have hkl' : (k : Int) < (l.length : Int):=by omega
      obtain ⟨g,o,hA,c1,c2,c3⟩:=wds_cell (HA.out.keep HB.out) hkl;have hx : l[k]? = some l[k]:=List.getElem?_eq_getElem hkl;obtain ⟨q,eq⟩ : ∃ q,l[k] = q:=⟨_,rfl⟩;rw [eq] at c1 c2 c3 hx;have HQ:=zqh (List.mem_of_getElem? hx);have HX:=zqh hx;have HN:=zqh (fun w => rnamed_any q.nm w);obtain ⟨z,ez⟩ : ∃ z,namedC q.nm = z:=⟨_,rfl⟩;have HZ:=zqh ez;rw [ez] at HN;subst hA;clear hx eq ez
      by_cases hz : z = 0
      · subst hz
        by_cases h0 : q.fl < 0
        · have H : Hid (dRight l = false):=right_no HQ.out (by unfold wordB; rw [(flagB_no _).2 (by omega),Bool.and_false])
          clear HT;(go_wp2_with fail);refine (HN.out _).mono ?_;rintro e1 w5 ⟨rfl,rfl⟩;(go_wp2_with fail);go_ret;exact ⟨by rw [H.out]; rfl,HB.out⟩
        · have h0' : decide (q.fl < 0) = false:=by simp; omega
          by_cases h7 : 7 < q.fl
          · have H : Hid (dRight l = false):=right_no HQ.out (by unfold wordB; rw [(flagB_no _).2 (by omega),Bool.and_false])
            clear HT h0;(go_wp2_with fail);refine (HN.out _).mono ?_;rintro e1 w5 ⟨rfl,rfl⟩;(go_wp2_with fail);go_ret;exact ⟨by rw [H.out]; rfl,HB.out⟩
          · have h7' : decide (7 < q.fl) = false:=by simp; omega
            have HW : Hid (wordB q = true):=by show _ = _; unfold wordB; rw [(flagB_iff _).2 (by omega),HZ.out]; rfl
            have HT2 : Hid ((l.take (k + 1)).all wordB = true):=by
              show _ = _;rw [List.take_add_one,HX.out,List.all_append,HT.out];simp [HW.out]
            clear HT h0 h7;(go_wp2_with fail);refine (HN.out _).mono ?_;rintro e1 w5 ⟨rfl,rfl⟩;(go_wp2_with fail)
            go_roundw
            case rel => exact ⟨k + 1,by simp,by omega,HT2,HB⟩
            case measure => simp [intOf]; omega
      · have H : Hid (dRight l = false):=right_no HQ.out (by unfold wordB; rw [HZ.out]; simp [hz])
        have hz1 : ((z : Int) != 0) = true:=by simpa using hz
        have hz2 : ((z : Int) == 0) = false:=by simpa using hz
        clear HT;(go_wp2_with fail);refine (HN.out _).mono ?_;rintro e1 w5 ⟨rfl,rfl⟩;(go_wp2_with fail);go_ret;exact ⟨by rw [H.out]; rfl,HB.out⟩
    · obtain rfl : k = l.length:=by omega
      rw [List.take_length] at HT;have H : Hid (dRight l = decide ((l.length : Int) ≤ 1024)):=by
        show _ = _;unfold dRight;rw [HT.out,Bool.true_and,decide_eq_decide];omega
      clear hkl hk;(go_wp2_with fail);go_ret;exact ⟨by rw [H.out]; rfl,HB.out⟩
theorem dsame_no {a b : List Wr} {k : Nat} {x y : Wr} (hx : a[k]? = some x) (hy : b[k]? = some y) (hne : x ≠ y) : dSame a b = false:=by
  unfold dSame;rw [decide_eq_false_iff_not];intro e;rw [e,hy] at hx;injection hx with hx
  exact hne hx.symm
theorem rsame9_any (A A' : Option Addr) (n c n' c' : Nat) (a b : List Wr) (w : World) (h : Wds w (.slice A n c) a) (h' : Wds w (.slice A' n' c') b) (ha : a.length ≤ 1000000) :
    Calls Tryz.prog 33 #[.slice A n c,.slice A' n' c'] w fun e w' => e = .returned (.bool (dSame a b)) ∧ Below w.heap.size w w':=by
  have ea:=h.len;have eb:=h'.len;subst ea eb
  by_cases hl : a.length = b.length
  · have hl' : ((a.length : Int) != (b.length : Int)) = false:=by simp [hl]
    have hl2 : ((a.length : Int) == (b.length : Int)) = true:=by simp [hl]
    have HA:=zqh h;have HB:=zqh h';have HLN:=zqh hl;clear h h' hl;go_enter Tryz.func33,Tryz.ntmps33;(go_wp2_with fail)
    go_loopw [5] (fun s5 wr => ∃ (k : Nat),s5 = .int .i64 (k : Int) ∧ k ≤ a.length ∧ Hid (a.take k = b.take k) ∧ Hid (Below w.heap.size w wr)) (fun s5 _ => a.length - (intOf s5).toNat)
    case atStart => exact ⟨0,rfl,Nat.zero_le _,zqh rfl,zqh (Below.refl _ _)⟩
    case round =>
      obtain ⟨k,rfl,hk,HT,HW⟩:=hrel
      by_cases hka : k < a.length
      · have hkb : k < b.length:=by have:=HLN.out; omega
        have hka' : (k : Int) < (a.length : Int):=by omega
        have hkb' : (k : Int) < (b.length : Int):=by omega
        obtain ⟨g,o,hA,c1,c2,c3⟩:=wds_cell (HA.out.keep HW.out) hka;obtain ⟨g',o',hA',d1,d2,d3⟩:=wds_cell (HB.out.keep HW.out) hkb;have hx:=List.getElem?_eq_getElem hka;have hy:=List.getElem?_eq_getElem hkb;obtain ⟨x,ex⟩ : ∃ x,a[k] = x:=⟨_,rfl⟩;obtain ⟨y,ey⟩ : ∃ y,b[k] = y:=⟨_,rfl⟩;rw [ex] at c1 c2 c3 hx;rw [ey] at d1 d2 d3 hy;subst hA hA';have HWd:=zqh fun i => below_then HW.out (drewN_belowW wr i)
        have HX:=zqh hx;have HY:=zqh hy;clear hx hy ex ey
        by_cases hn : x.nm = y.nm
        · rw [← hn] at d1
          by_cases ht : x.xt = y.xt
          · rw [← ht] at d2
            by_cases hf : x.fl = y.fl
            · rw [← hf] at d3
              have HT2 : Hid (a.take (k + 1) = b.take (k + 1)):=by
                show _ = _;rw [List.take_add_one,List.take_add_one,HT.out,HX.out,HY.out];rw [show x = y from by cases x; cases y; simp_all]
              clear HA HB HT hn ht hf;(go_wp2_with fail)
              go_quiet (fail)
              (go_wp2_with fail)
              go_roundw
              case rel => exact ⟨k + 1,by simp,by omega,HT2,zqh (HWd.out _)⟩
              case measure => simp [intOf]; omega
            · have hf1 : ((x.fl : Int) != y.fl) = true:=by simpa using hf
              have hf2 : ((x.fl : Int) == y.fl) = false:=by simpa using hf
              have H : Hid (dSame a b = false):=dsame_no HX.out HY.out (fun e => hf (by rw [e]));clear HT HA HB;(go_wp2_with fail)
              go_quiet (fail)
              (go_wp2_with fail);go_ret;exact ⟨by rw [H.out]; rfl,HWd.out _⟩
          · have ht1 : ((x.xt : Int) != y.xt) = true:=by simpa using ht
            have ht2 : ((x.xt : Int) == y.xt) = false:=by simpa using ht
            have H : Hid (dSame a b = false):=dsame_no HX.out HY.out (fun e => ht (by rw [e]));clear HT HA HB;(go_wp2_with fail)
            go_quiet (fail)
            (go_wp2_with fail);go_ret;exact ⟨by rw [H.out]; rfl,HWd.out _⟩
        · have hne:=str_ne (a:=strB x.nm) (b:=strB y.nm) (fun e => hn (strB_inj e))
          have hne2:=str_neq (a:=strB x.nm) (b:=strB y.nm) (fun e => hn (strB_inj e));have H : Hid (dSame a b = false):=dsame_no HX.out HY.out (fun e => hn (by rw [e]));clear HT HA HB;(go_wp2_with fail)
          go_quiet (fail)
          (go_wp2_with fail);go_ret;exact ⟨by rw [H.out]; rfl,HWd.out _⟩
      · obtain rfl : k = a.length:=by omega
        have H : Hid (dSame a b = true):=by
          have ht:=HT.out;have hl:=HLN.out;show _ = _;unfold dSame;rw [List.take_length,hl,List.take_length] at ht;simpa using ht
        have hkl : decide ((a.length : Int) < (a.length : Int)) = false:=by simp
        clear hka hk HT HA HB;(go_wp2_with fail);go_ret;exact ⟨by rw [H.out]; rfl,HW.out⟩
  · have H : Hid (dSame a b = false):=by show _ = _; unfold dSame; simp; intro e; rw [e] at hl; exact hl rfl
    rw [H.out];have hl' : ((a.length : Int) != (b.length : Int)) = true:=by simp; omega
    have hl2 : ((a.length : Int) == (b.length : Int)) = false:=by simp; omega
    have hl3 : ¬ (a.length : Int) = (b.length : Int):=by omega
    clear h h' hl ha;go_enter Tryz.func33,Tryz.ntmps33;(go_wp2_with fail);go_ret;exact ⟨rfl,Below.refl _ _⟩
end Go.Proofs.YtlgnijhemfkflaaGreatDoor

namespace Go.Proofs.YtlgnijhemfkflaaGreatDoor
open Go.RowKit


def pRight (o : Bool) (l : List UInt8) : Bool:=decide (l.length ≤ 130 ∧ (o = true ∨ l = []))
theorem pRight_iff (o : Bool) (l : List UInt8) : pRight o l = true ↔ (l.length ≤ 130 ∧ (o = true ∨ l = [])):=by unfold pRight; simp
theorem pRight_no (o : Bool) (l : List UInt8) : pRight o l = false ↔ ¬ (l.length ≤ 130 ∧ (o = true ∨ l = [])):=by unfold pRight; rw [decide_eq_false_iff_not]
def pSame (o : Bool) (l : List UInt8) (o' : Bool) (l' : List UInt8) : Bool:=decide (o = o' ∧ l = l')
def pOpen (o : Bool) (l : List UInt8) : Bool:=decide (o = true ∧ l.length < 130)
theorem pOpen_iff (o : Bool) (l : List UInt8) : pOpen o l = true ↔ (o = true ∧ l.length < 130):=by unfold pOpen; simp
theorem pOpen_no (o : Bool) (l : List UInt8) : pOpen o l = false ↔ ¬ (o = true ∧ l.length < 130):=by unfold pOpen; rw [decide_eq_false_iff_not]
def byteI (c : Int) : UInt8:=UInt8.ofNat (c % 256).toNat
theorem byteI_nat (c : Int) : ((byteI c).toNat : Int) = c % 256:=by
  unfold byteI;rw [UInt8.toNat_ofNat'];omega
def holdL (o : Bool) (l : List UInt8) (c : Int) : List UInt8:=if pOpen o l = true then l ++ [byteI c] else l
def holdC (o : Bool) (l : List UInt8) : Int:=if pOpen o l = true then 0 else -17
def pairN (lo hi : Int) : Nat:=un hi * 18446744073709551616 + un lo
def lowI (P : Nat) : Int:=wrap64 ((P % 18446744073709551616 : Nat) : Int)
def highI (P : Nat) : Int:=wrap64 ((P / 18446744073709551616 : Nat) : Int)
def digOK (o : Bool) (l : List UInt8) (b : Int) : Bool:=baseB b && pOpen o l
def digU (lo hi b : Int) : UInt8:=UInt8.ofNat (digN (pairN lo hi % b.toNat))
def digL (o : Bool) (l : List UInt8) (lo hi b : Int) : List UInt8:=if digOK o l b = true then l ++ [digU lo hi b] else l
def digLo (o : Bool) (l : List UInt8) (lo hi b : Int) : Int:=if digOK o l b = true then lowI (pairN lo hi / b.toNat) else lo
def digHi (o : Bool) (l : List UInt8) (lo hi b : Int) : Int:=if digOK o l b = true then highI (pairN lo hi / b.toNat) else hi
def digC (o : Bool) (l : List UInt8) (b : Int) : Int:=if baseB b = true then holdC o l else -24
def figs (lo hi b : Int) : List UInt8:=usF b.toNat (pairN lo hi)
def allOK (o : Bool) (l : List UInt8) (lo hi b : Int) : Bool:=baseB b && decide (o = true ∧ l.length + (figs lo hi b).length ≤ 130)
def allL (o : Bool) (l : List UInt8) (lo hi b : Int) : List UInt8:=if allOK o l lo hi b = true then l ++ (figs lo hi b).reverse else l
def allC (o : Bool) (l : List UInt8) (lo hi b : Int) : Int:=if baseB b = true then (if allOK o l lo hi b = true then 0 else -17) else -24
def signL (o : Bool) (l : List UInt8) (n : Int) : List UInt8:=if n < 0 then holdL o l 45 else l
def signC (o : Bool) (l : List UInt8) (n : Int) : Int:=if n < 0 then holdC o l else 0
def endL (o : Bool) (l : List UInt8) : List UInt8:=if o = true then l.reverse else []
def endC (o : Bool) : Int:=if o = true then 0 else -17
theorem pairN_lt (lo hi : Int) : pairN lo hi < 340282366920938463463374607431768211456:=by
  unfold pairN;have:=un_lt lo;have:=un_lt hi;omega
theorem un_low (P : Nat) : un (lowI P) = P % 18446744073709551616:=by
  have:=un_mod (lowI P);unfold lowI wrap64 at *;omega
theorem un_high {P : Nat} (h : P < 340282366920938463463374607431768211456) : un (highI P) = P / 18446744073709551616:=by
  have:=un_mod (highI P);unfold highI wrap64 at *;omega
theorem pair_back {P : Nat} (h : P < 340282366920938463463374607431768211456) : pairN (lowI P) (highI P) = P:=by
  unfold pairN;rw [un_low,un_high h];omega
theorem low_rng (P : Nat) : -9223372036854775808 ≤ lowI P ∧ lowI P ≤ 9223372036854775807:=by unfold lowI wrap64; omega
theorem high_rng (P : Nat) : -9223372036854775808 ≤ highI P ∧ highI P ≤ 9223372036854775807:=by unfold highI wrap64; omega
theorem pair_zero {lo hi : Int} (h0 : cellR lo) (h1 : cellR hi) : pairN lo hi = 0 ↔ lo = 0 ∧ hi = 0:=by
  have:=un_zero h0;have:=un_zero h1;unfold pairN;omega
end Go.Proofs.YtlgnijhemfkflaaGreatDoor

namespace Go.Proofs
open Go.Shelf
def Tryz.rev_ren : Go.Shelf.Ren:=⟨fun | 35 => 239 | n => n,fun | 0 => 0 | 3 => 3 | 4 => 4 | 22 => 24 | 23 => 5 | n => n,fun | n => n⟩
theorem Tryz.rev_lays : Go.Proofs.SlLaysE.n35 Tryz.prog Tryz.rev_ren:={
  mixed:=by kernel_rfl
  f35 := ⟨"slices.Reverse[[]byte,byte]", by decide, Tryz.func239.trans (congrArg some (by kernel_rfl))⟩
  t0:=Tryz.underlying0
  a0:=Tryz.isAgg0
  z0:=Tryz.sizeOf0
  v0:=Tryz.zeroValue0
  t3:=Tryz.underlying3
  a3:=Tryz.isAgg3
  z3:=Tryz.sizeOf3
  v3:=Tryz.zeroValue3
  t4:=Tryz.underlying4
  a4:=Tryz.isAgg4
  z4:=Tryz.sizeOf4
  v4:=Tryz.zeroValue4
  t22:=Tryz.underlying24
  a22:=Tryz.isAgg24
  z22:=Tryz.sizeOf24
  v22:=Tryz.zeroValue24
  a23:=Tryz.isAgg5
  z23:=Tryz.sizeOf5 }
theorem Tryz.slices_Reverse (blk off cap : Nat) (zs : List UInt8) (w : World) (hH : Go.Sort.Holds (fun b : UInt8 => Value.int .u8 (b.toNat : Int)) w blk off zs.toArray) (hsz : zs.length ≤ 9223372036854775807) :
    Calls Tryz.prog 239 #[.slice (some ⟨blk,off,none⟩) zs.length cap] w fun e w' => e = .returned (.tuple #[]) ∧ ∃ n,w' = Go.Sort.putRow (fun b : UInt8 => Value.int .u8 (b.toNat : Int)) (Go.Sort.ahead w n) blk off zs.reverse.toArray :=
  AnyE.slices_Reverse Tryz.rev_lays (fun b : UInt8 => Value.int .u8 (b.toNat : Int)) (fun _ => rfl) blk off cap zs w hH hsz
end Go.Proofs

namespace Go.Proofs.YtlgnijhemfkflaaGreatDoor
open Go.RowKit


abbrev encB (b : UInt8) : Value:=.int .u8 (b.toNat : Int)
theorem putRow_below {w0 w : World} {g off : Nat} {d : Array UInt8} (n : Nat) (hb : Below w0.heap.size w0 w) (hg : w0.heap.size ≤ g) : Below w0.heap.size w0 (Go.Sort.putRow encB (Go.Sort.ahead w n) g off d):=by
  refine hb.trans ⟨rfl,rfl,rfl,?_,fun k hk => ?_⟩
  · rw [Go.Sort.size_putRow]; exact Nat.le_refl _
  · show (w.heap.modify g _)[k]? = w.heap[k]?
    rw [Array.getElem?_modify,if_neg (by omega)]
theorem rev_own (w : World) (base n : Nat) (v : Value) (l : List UInt8) (h : BOwns w base v n l) (hne : l ≠ []) (hl : l.length ≤ 1000000) :
    Calls Tryz.prog 239 #[v] w fun e w' => e = .returned (.tuple #[]) ∧ Byt w' v l.reverse ∧ ∀ w0 : World,Below w0.heap.size w0 w → w0.heap.size ≤ base → Below w0.heap.size w0 w':=by
  have hn:=h.len;have hby:=h.byt
  rcases h.2 with ⟨_,h0⟩ | ⟨g,cap,cur,rfl,hbg,hg,hnc,hcm,hcs,ht⟩
  · exact absurd (List.eq_nil_of_length_eq_zero (hn.trans h0)) hne
  · subst hn
    have hH : Go.Sort.Holds encB w g 0 l.toArray:=by
      intro j hj;have hj' : j < l.length:=by simpa using hj
      constructor
      · obtain ⟨A,c,e,_,_,hli⟩:=hby
        injection e with e1 e2 e3
        subst e1
        rcases hli with h | ⟨g2,o2,e4,_,hc⟩
        · have:=congrArg List.length h
          rw [u8s_len] at this;have h0 : l.length = 0:=this;omega
        · injection e4 with e4
          have:=hc j (encB l[j]) (by unfold u8s; rw [List.getElem?_map,List.getElem?_eq_getElem hj']; rfl);injection e4 with e5 e6
          rw [← e5,← e6] at this;rw [this]
          congr 2
          simp [hj']
      · simp [World.frozen?,hg]
    refine (Tryz.slices_Reverse g 0 cap l w hH (by omega)).mono ?_;rintro e w' ⟨rfl,m,rfl⟩;refine ⟨rfl,⟨some ⟨g,0,none⟩,cap,by rw [List.length_reverse],by rw [List.length_reverse]; exact hnc,hcm,.inr ⟨g,0,rfl,?_,fun j x hx => ?_⟩⟩,fun w0 hb0 hs => putRow_below m hb0 (by omega)⟩
    · rw [Go.Sort.size_putRow]
      exact (Array.getElem?_eq_some_iff.1 hg).1
    · have hj : j < l.reverse.length:=by
        have:=(List.getElem?_eq_some_iff.1 hx).1;rw [u8s_len] at this;exact this
      have hx2 : x = encB l.reverse[j]:=by
        unfold u8s at hx;rw [List.getElem?_map,List.getElem?_eq_getElem hj] at hx;injection hx with hx
        exact hx.symm
      have hH2 : Go.Sort.Holds encB (Go.Sort.ahead w m) g 0 l.toArray:=hH;have:=Go.Sort.cell?_putRow encB (Go.Sort.ahead w m) g 0 l.toArray l.reverse.toArray hH2 (by simp) j (by simpa using hj);rw [this,hx2]
      congr 2
      have hj2 : j < l.reverse.toArray.size:=by simpa using hj
      rw [getElem!_pos l.reverse.toArray j hj2];simp
end Go.Proofs.YtlgnijhemfkflaaGreatDoor

namespace Go.Proofs.YtlgnijhemfkflaaGreatDoor
open Go.RowKit


theorem leansUp_any (a b : Int) (w : World) :
    Calls Tryz.prog 206 #[.int .i64 a,.int .i64 b] w fun e w' => e = .returned (.bool (leans a b)) ∧ w = w':=by
  go_enter Tryz.func206,Tryz.ntmps206;go_wp2
  all_goals go_ret
  · exact ⟨ret_bool (by subst_vars; simp [leans]),rfl⟩
  · exact ⟨ret_bool (by simp [leans,bne]),rfl⟩
theorem size_any (a : Int) (w : World) (ha : cellR a) :
    Calls Tryz.prog 212 #[.int .i64 a] w fun e w' => e = .returned (.int .u64 (a.natAbs : Int)) ∧ w = w':=by
  have HA:=zqh ha;clear ha;go_enter Tryz.func212,Tryz.ntmps212;go_wp2
  all_goals go_ret
  all_goals exact ⟨ret_int (by have:=HA.out; unfold cellR at this; simp only [IntKind.wrap_u64]; omega),rfl⟩
theorem div_any (a b : Int) (w : World) (ha : cellR a) (hb : cellR b) :
    Calls Tryz.prog 85 #[.int .i64 a,.int .i64 b] w fun e w' => e = .returned (.tuple #[.int .i64 (dq a b),.int .i64 (dr a b),.int .i64 (dc b)]) ∧ Below w.heap.size w w':=by
  have HA:=zqh ha;have HB:=zqh hb;clear ha hb
  by_cases h : b = 0
  · have hb0 : (b == 0) = true:=by simp [h]
    have H:=zqh h;clear h;go_enter Tryz.func85,Tryz.ntmps85;go_wp2
    go_ret3
    exact ⟨ret_three (by simp [dq,H.out]) (by simp [dr,H.out]) (by simp [dc,H.out]),Below.refl _ _⟩
  · have hb0 : (b == 0) = false:=by simp [h]
    by_cases hl : leans (a.tmod b) b = true
    · go_enter Tryz.func85,Tryz.ntmps85
      go_wp2
      go_quiet (fail)
      (go_wp2_with (go_at_call 206; refine (leansUp_any _ _ _).mono ?_; rintro e w' ⟨rfl,rfl⟩))
      go_ret3
      exact ⟨ret_three (by simp [dq,h,hl]) (by rw [wrap_in (leans_sum a b h HB.out hl)]; simp [dr,h,hl]) (by simp [dc,h]),drew_below _ _⟩
    · replace hl : leans (a.tmod b) b = false:=by simpa using hl
      go_enter Tryz.func85,Tryz.ntmps85;go_wp2
      go_quiet (fail)
      (go_wp2_with (go_at_call 206; refine (leansUp_any _ _ _).mono ?_; rintro e w' ⟨rfl,rfl⟩))
      go_ret3
      exact ⟨ret_three (by simp [dq,h,hl]) (by simp [dr,h,hl]) (by simp [dc,h]),drew_below _ _⟩
end Go.Proofs.YtlgnijhemfkflaaGreatDoor

namespace Go.Proofs
open Go.Shelf
def Tryz.lays134_ren : Go.Shelf.Ren:=⟨fun | 134 => 294 | 129 => 305 | n => n,fun | 53 => 52 | 3 => 3 | 4 => 4 | 46 => 267 | 5 => 5 | 9 => 9 | n => n,fun | n => n⟩
theorem Tryz.lays134 : Go.Proofs.Lays.n134 Tryz.prog Tryz.lays134_ren:={
  mixed:=by kernel_rfl
  f129:=Tryz.func305.trans (congrArg some (by kernel_rfl))
  f134:=Tryz.func294.trans (congrArg some (by kernel_rfl))
  t3:=Tryz.underlying3
  a3:=Tryz.isAgg3
  z3:=Tryz.sizeOf3
  v3:=Tryz.zeroValue3
  t4:=Tryz.underlying4
  a4:=Tryz.isAgg4
  z4:=Tryz.sizeOf4
  v4:=Tryz.zeroValue4
  t5:=Tryz.underlying5
  a5:=Tryz.isAgg5
  z5:=Tryz.sizeOf5
  v5:=Tryz.zeroValue5
  t9:=Tryz.underlying9
  a9:=Tryz.isAgg9
  z9:=Tryz.sizeOf9
  v9:=Tryz.zeroValue9
  t46:=Tryz.underlying267
  a46:=Tryz.isAgg267
  z46:=Tryz.sizeOf267
  v46:=Tryz.zeroValue267
  t53:=Tryz.underlying52
  a53:=Tryz.isAgg52
  z53:=Tryz.sizeOf52
  v53:=Tryz.zeroValue52 }
theorem Tryz.bits_LeadingZeros64 (x : Int) (w : World) (h0 : 0 ≤ x) (h1 : x ≤ 18446744073709551615) :
    Calls Tryz.prog 294 #[.int .u64 x] w fun e w' => e = .returned (.int .i64 (64 - (Lib.bitLen x.toNat : Int))) ∧ w' = w:=Any.bits_LeadingZeros64 Tryz.lays134 x w h0 h1
def Tryz.lays264_ren : Go.Shelf.Ren:=⟨fun | 264 => 208 | n => n,fun | 53 => 52 | 46 => 267 | n => n,fun | n => n⟩
theorem Tryz.lays264 : Go.Proofs.Lays.n264 Tryz.prog Tryz.lays264_ren:={
  mixed:=by kernel_rfl
  f264:=Tryz.func208.trans (congrArg some (by kernel_rfl))
  t46:=Tryz.underlying267
  a46:=Tryz.isAgg267
  z46:=Tryz.sizeOf267
  v46:=Tryz.zeroValue267
  t53:=Tryz.underlying52
  a53:=Tryz.isAgg52
  z53:=Tryz.sizeOf52
  v53:=Tryz.zeroValue52 }
open Go.RowKit Go.Lib in
theorem Tryz.bits_Mul64 (x y : Nat) (hx : x < 18446744073709551616) (hy : y < 18446744073709551616) (w : World) :
    Calls Tryz.prog 208 #[.int .u64 x,.int .u64 y] w fun e w' => e = .returned (.tuple #[.int .u64 ((x * y / 18446744073709551616 : Nat) : Int),.int .u64 ((x * y % 18446744073709551616 : Nat) : Int)]) ∧ w' = w:=Any.bits_Mul64 Tryz.lays264 x y hx hy w
end Go.Proofs

namespace Go.Proofs.YtlgnijhemfkflaaGreatDoor
open Go.RowKit


theorem mul64_any (x y : Nat) (hx : x < 18446744073709551616) (hy : y < 18446744073709551616) (w : World) :
    Calls Tryz.prog 208 #[.int .u64 x,.int .u64 y] w fun e w' => e = .returned (.tuple #[.int .u64 ((x * y / 18446744073709551616 : Nat) : Int),.int .u64 ((x * y % 18446744073709551616 : Nat) : Int)]) ∧ w = w' :=
  (Tryz.bits_Mul64 x y hx hy w).mono fun _ _ ⟨a,b⟩ => ⟨a,b.symm⟩
theorem umul_any (a b : Int) (w : World) :
    Calls Tryz.prog 90 #[.int .i64 a,.int .i64 b] w fun e w' => e = .returned (.tuple #[.int .i64 (umLo a b),.int .i64 (umHi a b)]) ∧ w = w':=by
  have ea:=un_cast a;have eb:=un_cast b;go_enter Tryz.func90,Tryz.ntmps90;(go_wp2_with (go_at_call 208; refine (mul64_any _ _ (un_lt _) (un_lt _) _).mono ?_; rintro e w' ⟨rfl,rfl⟩));go_ret2;exact ⟨ret_two rfl rfl,rfl⟩
theorem mul_any (a b : Int) (w : World) (ha : cellR a) (hb : cellR b) :
    Calls Tryz.prog 93 #[.int .i64 a,.int .i64 b] w fun e w' => e = .returned (.tuple #[.int .i64 (umLo a b),.int .i64 (smHi a b)]) ∧ w = w':=by
  have H:=zqh (smHi_eq a b ha hb)
  by_cases h1 : a < 0 <;> by_cases h2 : b < 0
  all_goals
    go_enter Tryz.func93,Tryz.ntmps93;(go_wp2_with (go_at_call 90; refine (umul_any _ _ _).mono ?_; rintro e w' ⟨rfl,rfl⟩));go_ret2
  · exact ⟨ret_two rfl (H.out.1 (by omega) (by omega)),rfl⟩
  · exact ⟨ret_two rfl (H.out.2.1 (by omega) (by omega)),rfl⟩
  · exact ⟨ret_two rfl (H.out.2.2.1 (by omega) (by omega)),rfl⟩
  · exact ⟨ret_two rfl (H.out.2.2.2 (by omega) (by omega)),rfl⟩
theorem sub64_run (x y b : Nat) (hb : b ≤ 1) (w : World) :
    (callFunc 270 #[.int .u64 (x : Int),.int .u64 (y : Int),.int .u64 (b : Int)]).run Tryz.prog w =
      .ok (.value (.tuple #[.int .u64 (((x + 18446744073709551616 - y - b) % 18446744073709551616 : Nat) : Int),.int .u64 ((if x < y + b then 1 else 0 : Nat) : Int)])) w:=by
  rw [run_callFunc_extern Tryz.func270 (by kernel_rfl) (by kernel_rfl) (by kernel_rfl) (e:=sub64Entry) (by kernel_rfl),run_sub64 x y b hb];rfl
theorem sub64_first (y : Nat) (w : World) :
    (callFunc 270 #[.int .u64 0,.int .u64 (y : Int),.int .u64 0]).run Tryz.prog w = .ok (.value (.tuple #[.int .u64 ((negU y 0 : Nat) : Int),.int .u64 ((bor y 0 : Nat) : Int)])) w:=by
  have h:=sub64_run 0 y 0 (by omega) w;unfold negU bor;simpa using h
theorem sub64_next (y b : Nat) (hb : b ≤ 1) (w : World) :
    (callFunc 270 #[.int .u64 0,.int .u64 (y : Int),.int .u64 (b : Int)]).run Tryz.prog w = .ok (.value (.tuple #[.int .u64 ((negU y b : Nat) : Int),.int .u64 ((bor y b : Nat) : Int)])) w:=by
  have h:=sub64_run 0 y b hb w;unfold negU bor;simpa using h
theorem pairSize_any (lo hi : Int) (w : World) (hh : cellR hi) :
    Calls Tryz.prog 211 #[.int .i64 lo,.int .i64 hi] w fun e w' => e = .returned (.tuple #[.int .u64 (((pr lo hi).natAbs % 18446744073709551616 : Nat) : Int),.int .u64 (((pr lo hi).natAbs / 18446744073709551616 : Nat) : Int)]) ∧ w = w':=by
  have e1:=un_cast lo;have e2:=un_cast hi
  by_cases h1 : hi < 0
  · have H:=zqh (pair_neg lo hi hh h1)
    have s1:=sub64_first (un lo);have s2:=sub64_next (un hi) (bor (un lo) 0) (bor_le _ _);clear hh;go_enter Tryz.func211,Tryz.ntmps211;go_wp2;go_ret2;exact ⟨ret_two (congrArg Nat.cast H.out.1) (congrArg Nat.cast H.out.2),rfl⟩
  · have H:=zqh (pair_pos lo hi hh (by omega))
    clear hh;go_enter Tryz.func211,Tryz.ntmps211;go_wp2;go_ret2;exact ⟨ret_two (congrArg Nat.cast H.out.1) (congrArg Nat.cast H.out.2),rfl⟩
theorem neg_cell (k : Nat) (hk : k ≤ 9223372036854775808) : wrap64 (IntKind.u64.wrap (-(k : Int))) = -(k : Int):=by
  rw [IntKind.wrap_u64]; unfold wrap64; omega
theorem signed_below (k : Nat) (hk : k ≤ 9223372036854775808) (w : World) :
    Calls Tryz.prog 213 #[.int .u64 k,.bool true] w fun e w' => e = .returned (.tuple #[.int .i64 (-(k : Int)),.bool true]) ∧ w = w':=by
  have H:=zqh (neg_cell k hk);go_enter Tryz.func213,Tryz.ntmps213;go_wp2;go_ret2;exact ⟨ret_ib H.out rfl,rfl⟩
theorem signed_above (k : Nat) (hk : k ≤ 9223372036854775807) (w : World) :
    Calls Tryz.prog 213 #[.int .u64 k,.bool false] w fun e w' => e = .returned (.tuple #[.int .i64 (k : Int),.bool true]) ∧ w = w':=by
  go_enter Tryz.func213,Tryz.ntmps213;go_wp2;go_ret2;exact ⟨ret_ib rfl rfl,rfl⟩
theorem signed_below_no (k : Nat) (hk : 9223372036854775808 < k) (w : World) :
    Calls Tryz.prog 213 #[.int .u64 k,.bool true] w fun e w' => e = .returned (.tuple #[.int .i64 0,.bool false]) ∧ w = w':=by
  go_enter Tryz.func213,Tryz.ntmps213;go_wp2;go_ret2;exact ⟨ret_ib rfl rfl,rfl⟩
theorem signed_above_no (k : Nat) (hk : 9223372036854775807 < k) (w : World) :
    Calls Tryz.prog 213 #[.int .u64 k,.bool false] w fun e w' => e = .returned (.tuple #[.int .i64 0,.bool false]) ∧ w = w':=by
  go_enter Tryz.func213,Tryz.ntmps213;go_wp2;go_ret2;exact ⟨ret_ib rfl rfl,rfl⟩
end Go.Proofs.YtlgnijhemfkflaaGreatDoor

namespace Go.Proofs.YtlgnijhemfkflaaGreatDoor.Plain
theorem digit_test (B v1 v0 u n q r : Nat) (h : q * v1 + r = u) : B * r + n < q * v0 ↔ u * B + n < q * (v1 * B + v0):=by
  subst h;have e1 : q * (v1 * B + v0) = q * v1 * B + q * v0:=by rw [Nat.mul_add,Nat.mul_assoc]
  have e2 : (q * v1 + r) * B = q * v1 * B + r * B:=Nat.add_mul _ _ _;have e3 : B * r = r * B:=Nat.mul_comm _ _;rw [e1,e2,e3];omega
theorem digit_lt (B v u n : Nat) (hu : u < v) (hn : n < B) : (u * B + n) / v < B:=by
  refine Nat.div_lt_of_lt_mul ?_;have : (u + 1) * B ≤ v * B:=Nat.mul_le_mul_right _ hu;rw [Nat.add_mul] at this;omega
theorem guess_ge (B v1 v0 u n : Nat) (h1 : 0 < v1) (hn : n < B) : (u * B + n) / (v1 * B + v0) ≤ u / v1:=by
  rw [Nat.le_div_iff_mul_le h1];have hB : 0 < B:=by omega
  have h : (u * B + n) / (v1 * B + v0) * (v1 * B + v0) ≤ u * B + n:=Nat.div_mul_le_self _ _;generalize (u * B + n) / (v1 * B + v0) = q at h ⊢;rw [Nat.mul_add,← Nat.mul_assoc] at h;have h2 : q * v1 * B < (u + 1) * B:=by rw [Nat.add_mul]; omega
  have:=Nat.lt_of_mul_lt_mul_right h2;omega
theorem guess_le (B v1 v0 u : Nat) (h1 : B ≤ 2 * v1) (h0 : v0 < B) (hu : u < v1 * B + v0) (_hv : 0 < v1) : u / v1 ≤ B + 1:=by
  have : u / v1 < B + 2:=by
    refine Nat.div_lt_of_lt_mul ?_;rw [Nat.mul_add];omega
  omega
theorem digit_break (B v1 v0 u n q r : Nat) (hq : q ≤ B) (h0 : v0 < B) (hr : B ≤ r) (h : q * v1 + r = u) : q * (v1 * B + v0) ≤ u * B + n:=by
  have t:=digit_test B v1 v0 u n q r h;have a : q * v0 ≤ B * v0:=Nat.mul_le_mul_right _ hq;have b : B * v0 ≤ B * r:=Nat.mul_le_mul_left _ (by omega);have : ¬ (B * r + n < q * v0):=by omega
  have:=mt t.2 this;omega
theorem two_digits (B v u n1 n0 : Nat) (hv : 0 < v) (_hB : 0 < B) :
    (u * B + n1) / v * B + ((u * B + n1) % v * B + n0) / v = ((u * B + n1) * B + n0) / v ∧
    ((u * B + n1) % v * B + n0) % v = ((u * B + n1) * B + n0) % v:=by
  have e:=Nat.div_add_mod (u * B + n1) v;generalize (u * B + n1) / v = q at *;generalize (u * B + n1) % v = r at *;have e2 : (u * B + n1) * B + n0 = v * (q * B) + (r * B + n0):=by
    rw [← e,Nat.add_mul,Nat.mul_assoc]; omega
  rw [e2];constructor
  · rw [Nat.mul_add_div hv]
  · rw [Nat.mul_add_mod]
theorem scaled (N y p : Nat) (hp : 0 < p) : (N * p) / (y * p) = N / y ∧ (N * p) % (y * p) / p = N % y:=by
  constructor
  · exact Nat.mul_div_mul_right _ _ hp
  · rw [Nat.mul_mod_mul_right,Nat.mul_div_cancel _ hp]
end Go.Proofs.YtlgnijhemfkflaaGreatDoor.Plain
