/- Part 12. -/
import Derived.Test.YtlgnijhemfkflaaGreatDoorPqAK
set_option linter.unusedVariables false
set_option linter.unusedSimpArgs false
set_option maxRecDepth 100000
set_option maxHeartbeats 4000000

namespace Go.Proofs.YtlgnijhemfkflaaGreatDoor
open Go.RowKit


theorem rnew_no (m d r v o : Int) (w : World) (hfit : fitsB m d r v o = false) :
    Calls Tryz.prog 41 #[.agg #[.int .i64 m,.int .i64 d,.int .i64 r,.int .i64 v,.int .i64 o]] w fun e w' => e = .returned (.tuple #[vmV vm0,.int .i64 (-24)]) ∧ Below w.heap.size w w':=by
  have HF:=zqh (rfits_any m d r v o);rw [hfit] at HF;obtain ⟨k0,k1,k2⟩:=cv_new w m d r v o vm0 _ rfl;have B0:=zqh k0;have X0:=zqh k2;clear k0 k1 k2 hfit;go_enter Tryz.func41,Tryz.ntmps41;(go_wp2_with fail);refine (HF.out _).mono ?_;rintro e w1 ⟨rfl,bb⟩;have B1:=zqh (below_then B0.out bb);have X1:=zqh (X0.out.keep bb);clear bb B0 X0 HF;(go_wp2_with (refine wpList_store_row rfl 36 _ _ rfl (w.heap.size + 1) (vmC vm0) rfl rfl _ _ X1.out (by kernel_rfl) rfl (vm_one _) ?_));refine bodyPost_ret (res_ct rfl _ _ _ _ rfl (vrow X1.out vm0)) rfl ?_;exact ⟨rfl,below_setRow B1.out (by omega) _⟩
def NewOut (m d r v o : Int) (w : World) (e : Ending) (w' : World) : Prop :=
  (fitsB m d r v o = true → ∃ (L : Nat) (g : Nat) (A : Option Addr) (c : Nat),m = (L : Int) ∧ e = .returned (.tuple #[vmV (newK L d r v o g A c),.int .i64 0]) ∧ IsVm w' (newK L d r v o g A c) (newL L)) ∧
  (fitsB m d r v o = false → e = .returned (.tuple #[vmV vm0,.int .i64 (-24)])) ∧ Below w.heap.size w w'
theorem rnew_any (m d r v o : Int) (w : World) : Calls Tryz.prog 41 #[.agg #[.int .i64 m,.int .i64 d,.int .i64 r,.int .i64 v,.int .i64 o]] w (NewOut m d r v o w):=by
  cases h : fitsB m d r v o with
  | false =>
    refine (rnew_no m d r v o w h).mono ?_;rintro e w1 ⟨rfl,b⟩;exact ⟨fun e => absurd (h.symm.trans e) (by decide),fun _ => rfl,b⟩
  | true =>
    have hf:=(fits_iff m d r v o).1 h;obtain ⟨L,rfl⟩ : ∃ L : Nat,m = (L : Int):=⟨m.toNat,by omega⟩;refine (rnew_yes L d r v o w h (by omega) (by omega)).mono ?_;rintro e w1 ⟨g,A,c,rfl,hv,b⟩;exact ⟨fun _ => ⟨L,g,A,c,rfl,rfl,hv⟩,fun e => absurd (h.symm.trans e) (by decide),b⟩
end Go.Proofs.YtlgnijhemfkflaaGreatDoor

namespace Go.Proofs.YtlgnijhemfkflaaGreatDoor
open Go.RowKit


theorem wpList_vload {ops : Array Oper} {rest : List Oper} {o : Oper} {a : Act} {Q : Exit → Act → World → Prop} {w : World} (hw : Region.wanted o (yielded ops a.tmps) = true) (x : Operand) (ho : o.op = .load 36 x)
    (b : Nat) (k : VmK) (hx : a.eval x = .pointer (some ⟨b,0,none⟩)) (hb : VBox w b k) (h : wpList Tryz.prog ops Q rest (a.put o.dst (vmV k)) w) : wpList Tryz.prog ops Q (o :: rest) a w :=
  wpList_step fun K hK => by
    rw [if_pos hw];exact wp_load_row 36 x ho b hx _ _ _ _ hb Tryz.underlying36 rfl vm_info (hK _ _ h)
end Go.Proofs.YtlgnijhemfkflaaGreatDoor

namespace Go.Proofs.YtlgnijhemfkflaaGreatDoor
open Go.RowKit


theorem rfmsame_any (A A' : Option Addr) (n c n' c' : Nat) (a b : List Fm) (w : World) (h : Fms w (.slice A n c) a) (h' : Fms w (.slice A' n' c') b) (ha : a.length ≤ 1000000) :
    Calls Tryz.prog 32 #[.slice A n c,.slice A' n' c'] w fun e w' => e = .returned (.bool (fmSame a b)) ∧ Below w.heap.size w w':=by
  have ea:=h.len;have eb:=h'.len;subst ea eb
  by_cases hl : a.length = b.length
  · have hl' : ((a.length : Int) != (b.length : Int)) = false:=by simp [hl]
    have hl2 : ((a.length : Int) == (b.length : Int)) = true:=by simp [hl]
    have HA:=zqh h;have HB:=zqh h';have HLN:=zqh hl;clear h h' hl;go_enter Tryz.func32,Tryz.ntmps32;(go_wp2_with fail)
    go_loopw [5] (fun s5 wr => ∃ (k : Nat),s5 = .int .i64 (k : Int) ∧ k ≤ a.length ∧ Hid (a.take k = b.take k) ∧ Hid (Below w.heap.size w wr)) (fun s5 _ => a.length - (intOf s5).toNat)
    case atStart => exact ⟨0,rfl,Nat.zero_le _,zqh rfl,zqh (Below.refl _ _)⟩
    case round =>
      obtain ⟨k,rfl,hk,HT,HW⟩:=hrel
      by_cases hka : k < a.length
      · have hkb : k < b.length:=by have:=HLN.out; omega
        have hka' : (k : Int) < (a.length : Int):=by omega
        have hkb' : (k : Int) < (b.length : Int):=by omega
        obtain ⟨g,o,hA,c0,c1,c2⟩:=fm_cells (HA.out.keep HW.out) hka;obtain ⟨g',o',hA',d0,d1,d2⟩:=fm_cells (HB.out.keep HW.out) hkb;have hx:=List.getElem?_eq_getElem hka;have hy:=List.getElem?_eq_getElem hkb;obtain ⟨x,ex⟩ : ∃ x,a[k] = x:=⟨_,rfl⟩;obtain ⟨y,ey⟩ : ∃ y,b[k] = y:=⟨_,rfl⟩;rw [ex] at c0 c1 c2 hx;rw [ey] at d0 d1 d2 hy;subst hA hA';have HWd:=zqh fun i => below_then HW.out (drewN_belowW wr i)
        have HX:=zqh hx;have HY:=zqh hy;clear hx hy ex ey
        by_cases h0 : x.d = y.d
        · rw [← h0] at d0
          by_cases h1 : x.r = y.r
          · rw [← h1] at d1
            by_cases h2 : x.ip = y.ip
            · rw [← h2] at d2
              have HT2 : Hid (a.take (k + 1) = b.take (k + 1)):=by
                show _ = _;rw [List.take_add_one,List.take_add_one,HT.out,HX.out,HY.out];rw [show x = y from by cases x; cases y; simp_all]
              clear HA HB HT h0 h1 h2;(go_wp2_with fail)
              go_quiet (fail)
              (go_wp2_with fail)
              go_roundw
              case rel => exact ⟨k + 1,by simp,by omega,HT2,zqh (HWd.out _)⟩
              case measure => simp [intOf]; omega
            · have n1 : ((x.ip : Int) != y.ip) = true:=by simpa using h2
              have n2 : ((x.ip : Int) == y.ip) = false:=by simpa using h2
              have H : Hid (fmSame a b = false):=fm_no HX.out HY.out (fun e => h2 (by rw [e]));clear HT HA HB;(go_wp2_with fail)
              go_quiet (fail)
              (go_wp2_with fail);go_ret;exact ⟨by rw [H.out]; rfl,HWd.out _⟩
          · have n1 : ((x.r : Int) != y.r) = true:=by simpa using h1
            have n2 : ((x.r : Int) == y.r) = false:=by simpa using h1
            have H : Hid (fmSame a b = false):=fm_no HX.out HY.out (fun e => h1 (by rw [e]));clear HT HA HB;(go_wp2_with fail)
            go_quiet (fail)
            (go_wp2_with fail);go_ret;exact ⟨by rw [H.out]; rfl,HWd.out _⟩
        · have n1 : ((x.d : Int) != y.d) = true:=by simpa using h0
          have n2 : ((x.d : Int) == y.d) = false:=by simpa using h0
          have H : Hid (fmSame a b = false):=fm_no HX.out HY.out (fun e => h0 (by rw [e]));clear HT HA HB;(go_wp2_with fail)
          go_quiet (fail)
          (go_wp2_with fail);go_ret;exact ⟨by rw [H.out]; rfl,HWd.out _⟩
      · obtain rfl : k = a.length:=by omega
        have H : Hid (fmSame a b = true):=by
          show _ = _;unfold fmSame;have:=HT.out;rw [List.take_length,HLN.out,List.take_length] at this;simp [this]
        clear hka hk HT HA HB HLN;(go_wp2_with fail);go_ret;exact ⟨by rw [H.out]; rfl,HW.out⟩
  · have hl' : ((a.length : Int) != (b.length : Int)) = true:=by simp; omega
    have hl2 : ((a.length : Int) == (b.length : Int)) = false:=by simp; omega
    have H : Hid (fmSame a b = false):=by show _ = _; unfold fmSame; rw [decide_eq_false_iff_not]; intro e; exact hl (by rw [e])
    clear h h' hl;go_enter Tryz.func32,Tryz.ntmps32;(go_wp2_with fail);go_ret;exact ⟨by rw [H.out]; rfl,Below.refl _ _⟩
end Go.Proofs.YtlgnijhemfkflaaGreatDoor

namespace Go.Proofs.YtlgnijhemfkflaaGreatDoor
open Go.RowKit


theorem rrqsame_any (A A' : Option Addr) (n c n' c' : Nat) (a b : List Rq) (w : World) (h : Rqs w (.slice A n c) a) (h' : Rqs w (.slice A' n' c') b) (ha : a.length ≤ 1000000) :
    Calls Tryz.prog 35 #[.slice A n c,.slice A' n' c'] w fun e w' => e = .returned (.bool (rqSame a b)) ∧ Below w.heap.size w w':=by
  have ea:=h.len;have eb:=h'.len;subst ea eb
  by_cases hl : a.length = b.length
  · have hl' : ((a.length : Int) != (b.length : Int)) = false:=by simp [hl]
    have hl2 : ((a.length : Int) == (b.length : Int)) = true:=by simp [hl]
    have HA:=zqh h;have HB:=zqh h';have HLN:=zqh hl;clear h h' hl;go_enter Tryz.func35,Tryz.ntmps35;(go_wp2_with fail)
    go_loopw [5] (fun s5 wr => ∃ (k : Nat),s5 = .int .i64 (k : Int) ∧ k ≤ a.length ∧ Hid (a.take k = b.take k) ∧ Hid (Below w.heap.size w wr)) (fun s5 _ => a.length - (intOf s5).toNat)
    case atStart => exact ⟨0,rfl,Nat.zero_le _,zqh rfl,zqh (Below.refl _ _)⟩
    case round =>
      obtain ⟨k,rfl,hk,HT,HW⟩:=hrel
      by_cases hka : k < a.length
      · have hkb : k < b.length:=by have:=HLN.out; omega
        have hka' : (k : Int) < (a.length : Int):=by omega
        have hkb' : (k : Int) < (b.length : Int):=by omega
        obtain ⟨g,o,hA,c0,c1,c2,c3,c4,c5⟩:=rq_cells (HA.out.keep HW.out) hka;obtain ⟨g',o',hA',d0,d1,d2,d3,d4,d5⟩:=rq_cells (HB.out.keep HW.out) hkb;have hx:=List.getElem?_eq_getElem hka;have hy:=List.getElem?_eq_getElem hkb;obtain ⟨x,ex⟩ : ∃ x,a[k] = x:=⟨_,rfl⟩;obtain ⟨y,ey⟩ : ∃ y,b[k] = y:=⟨_,rfl⟩;rw [ex] at c0 c1 c2 c3 c4 c5 hx;rw [ey] at d0 d1 d2 d3 d4 d5 hy;subst hA hA';have HWd:=zqh fun i => below_then HW.out (drewN_belowW wr i)
        have HX:=zqh hx;have HY:=zqh hy;clear hx hy ex ey
        by_cases h0 : x.kind = y.kind
        · rw [← h0] at d0
          by_cases h1 : x.arg = y.arg
          · rw [← h1] at d1
            by_cases h2 : x.hand = y.hand
            · rw [← h2] at d2
              by_cases h3 : x.rank = y.rank
              · rw [← h3] at d3
                by_cases h4 : x.delay = y.delay
                · rw [← h4] at d4
                  by_cases h5 : x.id = y.id
                  · rw [← h5] at d5
                    have HT2 : Hid (a.take (k + 1) = b.take (k + 1)):=by
                      show _ = _;rw [List.take_add_one,List.take_add_one,HT.out,HX.out,HY.out];rw [show x = y from by cases x; cases y; simp_all]
                    clear HA HB HT h0 h1 h2 h3 h4 h5;(go_wp2_with fail)
                    go_quiet (fail)
                    (go_wp2_with fail)
                    go_roundw
                    case rel => exact ⟨k + 1,by simp,by omega,HT2,zqh (HWd.out _)⟩
                    case measure => simp [intOf]; omega
                  · have n1 : ((x.id : Int) != y.id) = true:=by simpa using h5
                    have n2 : ((x.id : Int) == y.id) = false:=by simpa using h5
                    have H : Hid (rqSame a b = false):=rq_no HX.out HY.out (fun e => h5 (by rw [e]));clear HT HA HB;(go_wp2_with fail)
                    go_quiet (fail)
                    (go_wp2_with fail);go_ret;exact ⟨by rw [H.out]; rfl,HWd.out _⟩
                · have n1 : ((x.delay : Int) != y.delay) = true:=by simpa using h4
                  have n2 : ((x.delay : Int) == y.delay) = false:=by simpa using h4
                  have H : Hid (rqSame a b = false):=rq_no HX.out HY.out (fun e => h4 (by rw [e]));clear HT HA HB;(go_wp2_with fail)
                  go_quiet (fail)
                  (go_wp2_with fail);go_ret;exact ⟨by rw [H.out]; rfl,HWd.out _⟩
              · have n1 : ((x.rank : Int) != y.rank) = true:=by simpa using h3
                have n2 : ((x.rank : Int) == y.rank) = false:=by simpa using h3
                have H : Hid (rqSame a b = false):=rq_no HX.out HY.out (fun e => h3 (by rw [e]));clear HT HA HB;(go_wp2_with fail)
                go_quiet (fail)
                (go_wp2_with fail);go_ret;exact ⟨by rw [H.out]; rfl,HWd.out _⟩
            · have n1 : ((x.hand : Int) != y.hand) = true:=by simpa using h2
              have n2 : ((x.hand : Int) == y.hand) = false:=by simpa using h2
              have H : Hid (rqSame a b = false):=rq_no HX.out HY.out (fun e => h2 (by rw [e]));clear HT HA HB;(go_wp2_with fail)
              go_quiet (fail)
              (go_wp2_with fail);go_ret;exact ⟨by rw [H.out]; rfl,HWd.out _⟩
          · have n1 : ((x.arg : Int) != y.arg) = true:=by simpa using h1
            have n2 : ((x.arg : Int) == y.arg) = false:=by simpa using h1
            have H : Hid (rqSame a b = false):=rq_no HX.out HY.out (fun e => h1 (by rw [e]));clear HT HA HB;(go_wp2_with fail)
            go_quiet (fail)
            (go_wp2_with fail);go_ret;exact ⟨by rw [H.out]; rfl,HWd.out _⟩
        · have n1 : ((x.kind : Int) != y.kind) = true:=by simpa using h0
          have n2 : ((x.kind : Int) == y.kind) = false:=by simpa using h0
          have H : Hid (rqSame a b = false):=rq_no HX.out HY.out (fun e => h0 (by rw [e]));clear HT HA HB;(go_wp2_with fail)
          go_quiet (fail)
          (go_wp2_with fail);go_ret;exact ⟨by rw [H.out]; rfl,HWd.out _⟩
      · obtain rfl : k = a.length:=by omega
        have H : Hid (rqSame a b = true):=by
          show _ = _;unfold rqSame;have:=HT.out;rw [List.take_length,HLN.out,List.take_length] at this;simp [this]
        clear hka hk HT HA HB HLN;(go_wp2_with fail);go_ret;exact ⟨by rw [H.out]; rfl,HW.out⟩
  · have hl' : ((a.length : Int) != (b.length : Int)) = true:=by simp; omega
    have hl2 : ((a.length : Int) == (b.length : Int)) = false:=by simp; omega
    have H : Hid (rqSame a b = false):=by show _ = _; unfold rqSame; rw [decide_eq_false_iff_not]; intro e; exact hl (by rw [e])
    clear h h' hl;go_enter Tryz.func35,Tryz.ntmps35;(go_wp2_with fail);go_ret;exact ⟨by rw [H.out]; rfl,Below.refl _ _⟩
end Go.Proofs.YtlgnijhemfkflaaGreatDoor

namespace Go.Proofs.YtlgnijhemfkflaaGreatDoor
open Go.RowKit


theorem rhnsame_any (A A' : Option Addr) (n c n' c' : Nat) (a b : List Hn) (w : World) (h : Hns w (.slice A n c) a) (h' : Hns w (.slice A' n' c') b) (ha : a.length ≤ 1000000) :
    Calls Tryz.prog 36 #[.slice A n c,.slice A' n' c'] w fun e w' => e = .returned (.bool (hnSame a b)) ∧ Below w.heap.size w w':=by
  have ea:=h.len;have eb:=h'.len;subst ea eb
  by_cases hl : a.length = b.length
  · have hl' : ((a.length : Int) != (b.length : Int)) = false:=by simp [hl]
    have hl2 : ((a.length : Int) == (b.length : Int)) = true:=by simp [hl]
    have HA:=zqh h;have HB:=zqh h';have HLN:=zqh hl;clear h h' hl;go_enter Tryz.func36,Tryz.ntmps36;(go_wp2_with fail)
    go_loopw [5] (fun s5 wr => ∃ (k : Nat),s5 = .int .i64 (k : Int) ∧ k ≤ a.length ∧ Hid (a.take k = b.take k) ∧ Hid (Below w.heap.size w wr)) (fun s5 _ => a.length - (intOf s5).toNat)
    case atStart => exact ⟨0,rfl,Nat.zero_le _,zqh rfl,zqh (Below.refl _ _)⟩
    case round =>
      obtain ⟨k,rfl,hk,HT,HW⟩:=hrel
      by_cases hka : k < a.length
      · have hkb : k < b.length:=by have:=HLN.out; omega
        have hka' : (k : Int) < (a.length : Int):=by omega
        have hkb' : (k : Int) < (b.length : Int):=by omega
        obtain ⟨g,o,hA,c0,c1,c2,c3⟩:=hn_cells (HA.out.keep HW.out) hka;obtain ⟨g',o',hA',d0,d1,d2,d3⟩:=hn_cells (HB.out.keep HW.out) hkb;have hx:=List.getElem?_eq_getElem hka;have hy:=List.getElem?_eq_getElem hkb;obtain ⟨x,ex⟩ : ∃ x,a[k] = x:=⟨_,rfl⟩;obtain ⟨y,ey⟩ : ∃ y,b[k] = y:=⟨_,rfl⟩;rw [ex] at c0 c1 c2 c3 hx;rw [ey] at d0 d1 d2 d3 hy;subst hA hA';have HWd:=zqh fun i => below_then HW.out (drewN_belowW wr i)
        have HX:=zqh hx;have HY:=zqh hy;clear hx hy ex ey
        by_cases h0 : x.xt = y.xt
        · rw [← h0] at d0
          by_cases h1 : x.fuel = y.fuel
          · rw [← h1] at d1
            by_cases h2 : x.strikes = y.strikes
            · rw [← h2] at d2
              by_cases h3 : x.out = y.out
              · rw [← h3] at d3
                have HT2 : Hid (a.take (k + 1) = b.take (k + 1)):=by
                  show _ = _;rw [List.take_add_one,List.take_add_one,HT.out,HX.out,HY.out];rw [show x = y from by cases x; cases y; simp_all]
                clear HA HB HT h0 h1 h2 h3;(go_wp2_with fail)
                go_quiet (fail)
                (go_wp2_with fail)
                go_roundw
                case rel => exact ⟨k + 1,by simp,by omega,HT2,zqh (HWd.out _)⟩
                case measure => simp [intOf]; omega
              · have n1 : ((x.out : Bool) != y.out) = true:=by simpa using h3
                have n2 : ((x.out : Bool) == y.out) = false:=by simpa using h3
                have H : Hid (hnSame a b = false):=hn_no HX.out HY.out (fun e => h3 (by rw [e]));clear HT HA HB;(go_wp2_with fail)
                go_quiet (fail)
                (go_wp2_with fail);go_ret;exact ⟨by rw [H.out]; rfl,HWd.out _⟩
            · have n1 : ((x.strikes : Int) != y.strikes) = true:=by simpa using h2
              have n2 : ((x.strikes : Int) == y.strikes) = false:=by simpa using h2
              have H : Hid (hnSame a b = false):=hn_no HX.out HY.out (fun e => h2 (by rw [e]));clear HT HA HB;(go_wp2_with fail)
              go_quiet (fail)
              (go_wp2_with fail);go_ret;exact ⟨by rw [H.out]; rfl,HWd.out _⟩
          · have n1 : ((x.fuel : Int) != y.fuel) = true:=by simpa using h1
            have n2 : ((x.fuel : Int) == y.fuel) = false:=by simpa using h1
            have H : Hid (hnSame a b = false):=hn_no HX.out HY.out (fun e => h1 (by rw [e]));clear HT HA HB;(go_wp2_with fail)
            go_quiet (fail)
            (go_wp2_with fail);go_ret;exact ⟨by rw [H.out]; rfl,HWd.out _⟩
        · have n1 : ((x.xt : Int) != y.xt) = true:=by simpa using h0
          have n2 : ((x.xt : Int) == y.xt) = false:=by simpa using h0
          have H : Hid (hnSame a b = false):=hn_no HX.out HY.out (fun e => h0 (by rw [e]));clear HT HA HB;(go_wp2_with fail)
          go_quiet (fail)
          (go_wp2_with fail);go_ret;exact ⟨by rw [H.out]; rfl,HWd.out _⟩
      · obtain rfl : k = a.length:=by omega
        have H : Hid (hnSame a b = true):=by
          show _ = _;unfold hnSame;have:=HT.out;rw [List.take_length,HLN.out,List.take_length] at this;simp [this]
        clear hka hk HT HA HB HLN;(go_wp2_with fail);go_ret;exact ⟨by rw [H.out]; rfl,HW.out⟩
  · have hl' : ((a.length : Int) != (b.length : Int)) = true:=by simp; omega
    have hl2 : ((a.length : Int) == (b.length : Int)) = false:=by simp; omega
    have H : Hid (hnSame a b = false):=by show _ = _; unfold hnSame; rw [decide_eq_false_iff_not]; intro e; exact hl (by rw [e])
    clear h h' hl;go_enter Tryz.func36,Tryz.ntmps36;(go_wp2_with fail);go_ret;exact ⟨by rw [H.out]; rfl,Below.refl _ _⟩
end Go.Proofs.YtlgnijhemfkflaaGreatDoor
