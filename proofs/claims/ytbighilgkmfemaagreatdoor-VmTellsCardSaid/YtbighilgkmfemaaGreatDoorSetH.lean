/- What the laws of this stage lean on, part 8: VmRefC, VmKind, VmCodeB, VmFlagM, VmHeadM. -/
import Derived.Test.YtbighilgkmfemaaGreatDoorSetG
import Derived.Laws.IdiomStrings
import Derived.Test.YtbighilgkmfemaaGreatDoorSetD
import Derived.Test.YtbighilgkmfemaaGreatDoorSetE
import Derived.Maps.Own
import Derived.Maps.Views

/- The contract of the document's Print. -/
namespace Go.Proofs.YtbighilgkmfemaaGreatDoor
open Go.RowKit
set_option linter.unusedVariables false
set_option linter.unusedSimpArgs false

set_option maxRecDepth 100000 in
theorem conv_in (t : List UInt8) (w : World) (ht : t.length ≤ 1000000) : ∃ c w', (convert 9 24 (.string (strB t))).run Tryz.prog w = .ok (.slice (some ⟨w.heap.size, 0, none⟩) t.length c) w' ∧ Byt w' (.slice (some ⟨w.heap.size, 0, none⟩) t.length c) t ∧ Below w.heap.size w w' := by
  have hsz : (strB t).size = t.length := rfl
  have h := run_bytes_of_string (P := Tryz.prog) w 9 24 5 (strB t) Tryz.underlying9 Tryz.underlying24 Tryz.underlying5
  rw [hsz] at h
  refine ⟨_, _, h, ?_, ?_⟩
  · refine ⟨_, _, rfl, grownCap_ge _ _ _ _, grownCap_le_maxLen _ _ _ _ (by unfold maxLen; omega), ?_⟩
    refine .inr ⟨w.heap.size, 0, rfl, by simp, fun j v hv => ?_⟩
    have hb : ∀ (x : Obj), (w.drew.alloc x).heap[w.heap.size]? = some x := fun x => by
      show (w.heap.push x)[w.heap.size]? = _
      simp
    unfold World.cell?
    rw [hb]
    show (bytesRow (strB t) _)[0 + j]? = some v
    unfold bytesRow
    rw [Nat.zero_add, Array.getElem?_append_left (by have := (List.getElem?_eq_some_iff.1 hv).1; rw [u8s_len] at this; simpa [strB] using this)]
    simpa [strB, u8s] using hv
  · exact (Below.refl _ w).drew.alloc (Nat.le_refl _) _
def printC (l s : List UInt8) (co : Int) : Int := if co - (l.length : Int) < (s.length : Int) then -260 else 0
def printL (l s : List UInt8) (co : Int) : List UInt8 := if co - (l.length : Int) < (s.length : Int) then l else l ++ s
theorem Byt.fresh {w1 w2 W : World} {B : Option Addr} {m d : Nat} {l : List UInt8} (h : Byt w1 (.slice B m d) l) (hf : ∀ b, B = some b → W.heap.size ≤ b.block) (hz : w1.heap.size ≤ w2.heap.size)
    (hs : ∀ g, W.heap.size ≤ g → g < w1.heap.size → w2.heap[g]? = w1.heap[g]?) : Byt w2 (.slice B m d) l := by
  obtain ⟨A, c, e, h1, h2, h3⟩ := h
  injection e with e1 e2 e3
  subst e1 e2 e3
  refine ⟨_, _, rfl, h1, h2, ?_⟩
  rcases h3 with h3 | ⟨g, o, e, hg, hc⟩
  · exact .inl h3
  · refine .inr ⟨g, o, e, by omega, fun j v hv => ?_⟩
    have := hc j v hv
    unfold World.cell? at this ⊢
    rw [hs g (hf _ e) hg]
    exact this
set_option maxRecDepth 100000 in
set_option maxHeartbeats 4000000 in
theorem rvprint_any (k : VmK) (l s : List UInt8) (w : World) (hn : k.on ≤ 65536) (h0 : 0 ≤ k.co) (h6 : k.co ≤ 65536) (hs : s.length ≤ 100000) (HR : Hid (Byt w (.slice k.oA k.on k.oc) l)) :
    Calls Tryz.prog 35 #[vmV k, .string (strB s)] w fun e w' => ∃ B m d, e = .returned (.tuple #[vmV { k with oA := B, on := m, oc := d }, .int .i64 (printC l s k.co)]) ∧ Byt w' (.slice B m d) (printL l s k.co) ∧ Below w.heap.size w w' := by
  have hl := HR.out.len
  have hsz : (strB s).size = s.length := rfl
  by_cases h : k.co - (k.on : Int) < (s.length : Int)
  · have H1 : Hid (printC l s k.co = -260) := if_pos (by rw [hl]; exact h)
    have H2 : Hid (printL l s k.co = l) := if_pos (by rw [hl]; exact h)
    rw [H1.out]
    have kr := al_two w (.cells #[.int .i64 k.cm, .int .i64 k.cd, .int .i64 k.cr, .int .i64 k.cw, .int .i64 k.co, .slice k.mA k.mn k.mc, .slice k.pA k.pn k.pc, .int .i64 k.here, .slice k.dA k.dn k.dc, .slice k.rA k.rn k.rc, .slice k.fA k.fn k.fc, .slice k.wA k.wn k.wc, .int .i64 k.last, .slice k.oA k.on k.oc, .slice k.qA k.qn k.qc, .bool k.qo, .slice k.eA k.en k.ec, .int .i64 k.free, .int .i64 k.next, .int .i64 k.arg, .int .i64 k.self, .int .i64 k.now, .slice k.hA k.hn k.hc] 36) (.cells #[.int .i64 0, .int .i64 0, .int .i64 0, .int .i64 0, .int .i64 0, .slice none 0 0, .slice none 0 0, .int .i64 0, .slice none 0 0, .slice none 0 0, .slice none 0 0, .slice none 0 0, .int .i64 0, .slice none 0 0, .slice none 0 0, .bool false, .slice none 0 0, .int .i64 0, .int .i64 0, .int .i64 0, .int .i64 0, .int .i64 0, .slice none 0 0] 36)
    have HPr : Hid (VBox ((w.alloc (.cells #[.int .i64 k.cm, .int .i64 k.cd, .int .i64 k.cr, .int .i64 k.cw, .int .i64 k.co, .slice k.mA k.mn k.mc, .slice k.pA k.pn k.pc, .int .i64 k.here, .slice k.dA k.dn k.dc, .slice k.rA k.rn k.rc, .slice k.fA k.fn k.fc, .slice k.wA k.wn k.wc, .int .i64 k.last, .slice k.oA k.on k.oc, .slice k.qA k.qn k.qc, .bool k.qo, .slice k.eA k.en k.ec, .int .i64 k.free, .int .i64 k.next, .int .i64 k.arg, .int .i64 k.self, .int .i64 k.now, .slice k.hA k.hn k.hc] 36)).alloc (.cells #[.int .i64 0, .int .i64 0, .int .i64 0, .int .i64 0, .int .i64 0, .slice none 0 0, .slice none 0 0, .int .i64 0, .slice none 0 0, .slice none 0 0, .slice none 0 0, .slice none 0 0, .int .i64 0, .slice none 0 0, .slice none 0 0, .bool false, .slice none 0 0, .int .i64 0, .int .i64 0, .int .i64 0, .int .i64 0, .int .i64 0, .slice none 0 0] 36)) w.heap.size k) := (vbox_new w k).keep (al_one _ _)
    have HXr : Hid (VBox ((w.alloc (.cells #[.int .i64 k.cm, .int .i64 k.cd, .int .i64 k.cr, .int .i64 k.cw, .int .i64 k.co, .slice k.mA k.mn k.mc, .slice k.pA k.pn k.pc, .int .i64 k.here, .slice k.dA k.dn k.dc, .slice k.rA k.rn k.rc, .slice k.fA k.fn k.fc, .slice k.wA k.wn k.wc, .int .i64 k.last, .slice k.oA k.on k.oc, .slice k.qA k.qn k.qc, .bool k.qo, .slice k.eA k.en k.ec, .int .i64 k.free, .int .i64 k.next, .int .i64 k.arg, .int .i64 k.self, .int .i64 k.now, .slice k.hA k.hn k.hc] 36)).alloc (.cells #[.int .i64 0, .int .i64 0, .int .i64 0, .int .i64 0, .int .i64 0, .slice none 0 0, .slice none 0 0, .int .i64 0, .slice none 0 0, .slice none 0 0, .slice none 0 0, .slice none 0 0, .int .i64 0, .slice none 0 0, .slice none 0 0, .bool false, .slice none 0 0, .int .i64 0, .int .i64 0, .int .i64 0, .int .i64 0, .int .i64 0, .slice none 0 0] 36)) (w.heap.size + 1) vm0) := by have := vbox_zero (w.alloc (.cells #[.int .i64 k.cm, .int .i64 k.cd, .int .i64 k.cr, .int .i64 k.cw, .int .i64 k.co, .slice k.mA k.mn k.mc, .slice k.pA k.pn k.pc, .int .i64 k.here, .slice k.dA k.dn k.dc, .slice k.rA k.rn k.rc, .slice k.fA k.fn k.fc, .slice k.wA k.wn k.wc, .int .i64 k.last, .slice k.oA k.on k.oc, .slice k.qA k.qn k.qc, .bool k.qo, .slice k.eA k.en k.ec, .int .i64 k.free, .int .i64 k.next, .int .i64 k.arg, .int .i64 k.self, .int .i64 k.now, .slice k.hA k.hn k.hc] 36)); rw [World.size_alloc] at this; exact this
    have HBr := Lib.hid kr
    clear hl kr
    go_enter Tryz.func35, Tryz.ntmps35
    go_wp2_with (first
    | (refine wpList_load_row rfl 36 _ rfl w.heap.size rfl _ _ _ _ HPr.out Tryz.underlying36 rfl (by kernel_rfl) ?_)
    | (refine wpList_store_row rfl 36 _ _ rfl (w.heap.size + 1) (vmC k) rfl rfl _ _ HXr.out (by kernel_rfl) rfl (vm_one _) ?_))
    refine bodyPost_ret (res_ct rfl _ _ _ _ rfl (vrow HXr.out k)) rfl ⟨k.oA, k.on, k.oc, rfl, ?_, ?_⟩
    · rw [H2.out]
      exact HR.out.keep (below_setRow HBr.out (by omega) _)
    · exact below_setRow HBr.out (by omega) _
  · have H1 : Hid (printC l s k.co = 0) := if_neg (by rw [hl]; exact h)
    have H2 : Hid (printL l s k.co = l ++ s) := if_neg (by rw [hl]; exact h)
    rw [H1.out]
    have h' : decide (k.co - (k.on : Int) < (s.length : Int)) = false := by simp; omega
    obtain ⟨o1, ho1⟩ : ∃ o1 : Obj, (.cells #[.int .i64 k.cm, .int .i64 k.cd, .int .i64 k.cr, .int .i64 k.cw, .int .i64 k.co, .slice k.mA k.mn k.mc, .slice k.pA k.pn k.pc, .int .i64 k.here, .slice k.dA k.dn k.dc, .slice k.rA k.rn k.rc, .slice k.fA k.fn k.fc, .slice k.wA k.wn k.wc, .int .i64 k.last, .slice k.oA k.on k.oc, .slice k.qA k.qn k.qc, .bool k.qo, .slice k.eA k.en k.ec, .int .i64 k.free, .int .i64 k.next, .int .i64 k.arg, .int .i64 k.self, .int .i64 k.now, .slice k.hA k.hn k.hc] 36) = o1 := ⟨_, rfl⟩
    obtain ⟨o2, ho2⟩ : ∃ o2 : Obj, (.cells #[.int .i64 0, .int .i64 0, .int .i64 0, .int .i64 0, .int .i64 0, .slice none 0 0, .slice none 0 0, .int .i64 0, .slice none 0 0, .slice none 0 0, .slice none 0 0, .slice none 0 0, .int .i64 0, .slice none 0 0, .slice none 0 0, .bool false, .slice none 0 0, .int .i64 0, .int .i64 0, .int .i64 0, .int .i64 0, .int .i64 0, .slice none 0 0] 36) = o2 := ⟨_, rfl⟩
    obtain ⟨W, hW⟩ : ∃ W, (w.alloc o1).alloc o2 = W := ⟨_, rfl⟩
    have kk := al_two w o1 o2
    have hx : VBox ((w.alloc o1).alloc o2) w.heap.size k ∧ VBox ((w.alloc o1).alloc o2) (w.heap.size + 1) vm0 := by rw [← ho1, ← ho2]; exact ⟨(vbox_new w k).keep (al_one _ _), by have := vbox_zero (w.alloc (.cells #[.int .i64 k.cm, .int .i64 k.cd, .int .i64 k.cr, .int .i64 k.cw, .int .i64 k.co, .slice k.mA k.mn k.mc, .slice k.pA k.pn k.pc, .int .i64 k.here, .slice k.dA k.dn k.dc, .slice k.rA k.rn k.rc, .slice k.fA k.fn k.fc, .slice k.wA k.wn k.wc, .int .i64 k.last, .slice k.oA k.on k.oc, .slice k.qA k.qn k.qc, .bool k.qo, .slice k.eA k.en k.ec, .int .i64 k.free, .int .i64 k.next, .int .i64 k.arg, .int .i64 k.self, .int .i64 k.now, .slice k.hA k.hn k.hc] 36)); rwa [World.size_alloc] at this⟩
    rw [hW] at kk hx
    have HB := Lib.hid kk
    have HP := Lib.hid hx.1
    have HX := Lib.hid hx.2
    have HW : Hid ((w.alloc (.cells #[.int .i64 k.cm, .int .i64 k.cd, .int .i64 k.cr, .int .i64 k.cw, .int .i64 k.co, .slice k.mA k.mn k.mc, .slice k.pA k.pn k.pc, .int .i64 k.here, .slice k.dA k.dn k.dc, .slice k.rA k.rn k.rc, .slice k.fA k.fn k.fc, .slice k.wA k.wn k.wc, .int .i64 k.last, .slice k.oA k.on k.oc, .slice k.qA k.qn k.qc, .bool k.qo, .slice k.eA k.en k.ec, .int .i64 k.free, .int .i64 k.next, .int .i64 k.arg, .int .i64 k.self, .int .i64 k.now, .slice k.hA k.hn k.hc] 36)).alloc (.cells #[.int .i64 0, .int .i64 0, .int .i64 0, .int .i64 0, .int .i64 0, .slice none 0 0, .slice none 0 0, .int .i64 0, .slice none 0 0, .slice none 0 0, .slice none 0 0, .slice none 0 0, .int .i64 0, .slice none 0 0, .slice none 0 0, .bool false, .slice none 0 0, .int .i64 0, .int .i64 0, .int .i64 0, .int .i64 0, .int .i64 0, .slice none 0 0] 36) = W) := by show _ = _; rw [ho1, ho2]; exact hW
    have hS : W.heap.size = w.heap.size + 1 + 1 := by rw [← hW]; simp
    have hO := none_bowns W
    rw [hS] at hO
    have HO0 := Lib.hid hO
    have HRW := Lib.hid (HR.out.keep (below_then kk (al_one W (.cells #[] 5))))
    have HS := Lib.hid hS
    clear hl h kk hx hW ho1 ho2 hS hO
    go_enter Tryz.func35, Tryz.ntmps35
    have tok1 : True := trivial
    go_wp2_with (first
    | (at_builtin; have _t := tok1; rw [HW.out]; (refine wpList_bapp rfl _ _ rfl (w.heap.size + 1 + 1) (.slice (some ⟨w.heap.size + 1 + 1, 0, none⟩) 0 0) 0 [] rfl HO0.out k.oA k.on k.oc l rfl HRW.out (by omega) (by have := HS.out; simp; omega) W (al_one _ _) (by have := HS.out; omega) ?_; intro v1 w1 u1 u2 u3; have O1 := Lib.hid u1; have B1 := Lib.hid u2; (obtain ⟨cc, w9, hcv, hby, hb9⟩ := conv_in s w1 (by omega)); have HBY := Lib.hid hby; have HB9 := Lib.hid hb9; clear u1 u2 u3 hby hb9 tok1))
    | (at_builtin; (refine wpList_bapp rfl _ _ rfl (w.heap.size + 1 + 1) v1 _ _ rfl (BOwns.keep O1.out HB9.out) (some ⟨w1.heap.size, 0, none⟩) s.length cc s rfl HBY.out (by omega) (by have := HS.out; have := B1.out.size; have := HB9.out.size; omega) W (below_then B1.out HB9.out) (by have := HS.out; omega) ?_; intro v2 w2 u1 u2 u3; have hfr := own_from u1; have hln := u1.len; (obtain ⟨B, m2, d, rfl⟩ := byt_slice u1.byt); (obtain rfl : k.on + s.length = m2 := (by have := u1.byt.len; rw [Nat.zero_add, List.nil_append] at *; omega)); have HF : Hid (∀ b, B = some b → w.heap.size + 1 + 1 ≤ b.block) := (fun b e => hfr b.block (by rw [e]; rfl)); have HR2 := Lib.hid u1.byt; have HB2 := Lib.hid u2; have XP := Lib.hid (HP.out.keep u2); have YP := Lib.hid (XP.out.set_o B (k.on + s.length) d); have YZ : Hid (VBox (w2.setCell ⟨w.heap.size, 13, none⟩ (.slice B (k.on + s.length) d)) (w.heap.size + 1) vm0) := (by show VBox _ _ _; unfold VBox; rw [Below.heap_setCell _ _ _ _ (by simp)]; exact HX.out.keep u2); (obtain ⟨p0, p1, p2, p3, p4, p5, p6, p7, p8, p9, p10, p11, p12, p13, p14, p15, p16, p17, p18, p19, p20, p21, p22⟩ := XP.out.use); (obtain ⟨f0, f1, f2, f3, f4, f5, f6, f7, f8, f9, f10, f11, f12, f13, f14, f15, f16, f17, f18, f19, f20, f21, f22⟩ := XP.out.free); have lp := XP.out.lt; clear u1 u2 u3 hfr hln))
    | (refine wpList_load_row rfl 36 _ rfl w.heap.size rfl _ _ _ _ YP.out Tryz.underlying36 rfl (by kernel_rfl) ?_)
    | (refine wpList_store_row rfl 36 _ _ rfl (w.heap.size + 1) (vmC { k with oA := B, on := k.on + s.length, oc := d }) rfl rfl _ _ YZ.out (by kernel_rfl) rfl (vm_one _) ?_))
    have YF := Lib.hid (vrow YZ.out { k with oA := B, on := k.on + s.length, oc := d })
    refine bodyPost_ret (res_ct rfl _ _ _ _ rfl YF.out) rfl ⟨B, k.on + s.length, d, rfl, ?_, ?_⟩
    · rw [H2.out]
      have hr2 := HR2.out
      have hf2 := HF.out
      rw [← HS.out] at hf2
      simp only [Nat.zero_add, List.nil_append] at hr2
      refine hr2.fresh (W := W) hf2 (by rw [size_setRow]; simp [World.setCell]) fun g hg hlt => ?_
      rw [setRow_other _ _ _ _ (by have := HS.out; omega), Below.heap_setCell _ _ _ _ (by have := HS.out; show g ≠ w.heap.size; omega)]
    · exact below_setRow ((below_then HB.out HB2.out).setCell (p := ⟨w.heap.size, 13, none⟩) (Nat.le_refl _) _) (by omega) _
end Go.Proofs.YtbighilgkmfemaaGreatDoor

/- The contract of the document's Kind. -/
namespace Go.Proofs.YtbighilgkmfemaaGreatDoor
open Go.RowKit
set_option linter.unusedVariables false
set_option linter.unusedSimpArgs false

/-- A code field's number. -/
def codeB (n : Int) : Bool := decide ((0 ≤ n ∧ n < 130) ∨ (256 ≤ n ∧ n ≤ 260) ∨ (300 ≤ n ∧ n < 337))
def kindV (m : PM) (L : Nat) (p : Int) : Int := if cellC L p = 0 ∧ codeB (fetchF m p) = true then fetchF m p else 0
def kindC (m : PM) (L : Nat) (p : Int) : Int := if cellC L p = 0 then (if codeB (fetchF m p) = true then 0 else -9) else cellC L p
set_option maxRecDepth 100000 in
set_option maxHeartbeats 4000000 in
theorem kind_a (k : VmK) (n p : Int) (w : World) (h0 : (0 : Int) ≤ n) (h130 : n < (130 : Int)) (h256 : decide ((256 : Int) ≤ n) = false) (h260 : n ≤ (260 : Int)) (h300 : decide ((300 : Int) ≤ n) = false) (h337 : n < (337 : Int)) (HF : Hid (∀ a, Below w.heap.size w a → Calls Tryz.prog 38 #[.agg #[.slice k.mA k.mn k.mc, .slice k.pA k.pn k.pc], .int .i64 p] a fun e w' => e = .returned (.tuple #[.int .i64 n, .int .i64 0]) ∧ Below a.heap.size a w')) :
    Calls Tryz.prog 25 #[vmV k, .int .i64 p] w fun e w' => e = .returned (.tuple #[.int .i64 n, .int .i64 (0)]) ∧ Below w.heap.size w w' := by
  have HB := Lib.hid (al_one w (.cells #[.int .i64 k.cm, .int .i64 k.cd, .int .i64 k.cr, .int .i64 k.cw, .int .i64 k.co, .slice k.mA k.mn k.mc, .slice k.pA k.pn k.pc, .int .i64 k.here, .slice k.dA k.dn k.dc, .slice k.rA k.rn k.rc, .slice k.fA k.fn k.fc, .slice k.wA k.wn k.wc, .int .i64 k.last, .slice k.oA k.on k.oc, .slice k.qA k.qn k.qc, .bool k.qo, .slice k.eA k.en k.ec, .int .i64 k.free, .int .i64 k.next, .int .i64 k.arg, .int .i64 k.self, .int .i64 k.now, .slice k.hA k.hn k.hc] 36))
  have HC := Lib.hid (HF.out _ HB.out)
  clear HF
  go_enter Tryz.func25, Tryz.ntmps25
  go_wp2_with fail
  refine HC.out.mono ?_
  rintro e w1 ⟨rfl, bb⟩
  have HB1 := Lib.hid (below_then HB.out bb)
  clear bb HC
  go_wp2_with fail
  refine (rnames_any _).mono ?_
  rintro e w2 ⟨rfl, _, bb⟩
  have HB2 := Lib.hid (below_then HB1.out bb)
  clear bb
  go_wp2_with fail
  go_ret2
  exact ⟨rfl, HB2.out⟩
set_option maxRecDepth 100000 in
set_option maxHeartbeats 4000000 in
theorem kind_b (k : VmK) (n p : Int) (w : World) (h0 : decide ((0 : Int) ≤ n) = false) (h130 : n < (130 : Int)) (h256 : decide ((256 : Int) ≤ n) = false) (h260 : n ≤ (260 : Int)) (h300 : decide ((300 : Int) ≤ n) = false) (h337 : n < (337 : Int)) (HF : Hid (∀ a, Below w.heap.size w a → Calls Tryz.prog 38 #[.agg #[.slice k.mA k.mn k.mc, .slice k.pA k.pn k.pc], .int .i64 p] a fun e w' => e = .returned (.tuple #[.int .i64 n, .int .i64 0]) ∧ Below a.heap.size a w')) :
    Calls Tryz.prog 25 #[vmV k, .int .i64 p] w fun e w' => e = .returned (.tuple #[.int .i64 0, .int .i64 (-9)]) ∧ Below w.heap.size w w' := by
  have HB := Lib.hid (al_one w (.cells #[.int .i64 k.cm, .int .i64 k.cd, .int .i64 k.cr, .int .i64 k.cw, .int .i64 k.co, .slice k.mA k.mn k.mc, .slice k.pA k.pn k.pc, .int .i64 k.here, .slice k.dA k.dn k.dc, .slice k.rA k.rn k.rc, .slice k.fA k.fn k.fc, .slice k.wA k.wn k.wc, .int .i64 k.last, .slice k.oA k.on k.oc, .slice k.qA k.qn k.qc, .bool k.qo, .slice k.eA k.en k.ec, .int .i64 k.free, .int .i64 k.next, .int .i64 k.arg, .int .i64 k.self, .int .i64 k.now, .slice k.hA k.hn k.hc] 36))
  have HC := Lib.hid (HF.out _ HB.out)
  clear HF
  go_enter Tryz.func25, Tryz.ntmps25
  go_wp2_with fail
  refine HC.out.mono ?_
  rintro e w1 ⟨rfl, bb⟩
  have HB1 := Lib.hid (below_then HB.out bb)
  clear bb HC
  go_wp2_with fail
  go_ret2
  exact ⟨rfl, HB1.out⟩
set_option maxRecDepth 100000 in
set_option maxHeartbeats 4000000 in
theorem kind_c (k : VmK) (n p : Int) (w : World) (h0 : (0 : Int) ≤ n) (h130 : decide (n < (130 : Int)) = false) (h256 : decide ((256 : Int) ≤ n) = false) (h260 : n ≤ (260 : Int)) (h300 : decide ((300 : Int) ≤ n) = false) (h337 : n < (337 : Int)) (HF : Hid (∀ a, Below w.heap.size w a → Calls Tryz.prog 38 #[.agg #[.slice k.mA k.mn k.mc, .slice k.pA k.pn k.pc], .int .i64 p] a fun e w' => e = .returned (.tuple #[.int .i64 n, .int .i64 0]) ∧ Below a.heap.size a w')) :
    Calls Tryz.prog 25 #[vmV k, .int .i64 p] w fun e w' => e = .returned (.tuple #[.int .i64 0, .int .i64 (-9)]) ∧ Below w.heap.size w w' := by
  have HB := Lib.hid (al_one w (.cells #[.int .i64 k.cm, .int .i64 k.cd, .int .i64 k.cr, .int .i64 k.cw, .int .i64 k.co, .slice k.mA k.mn k.mc, .slice k.pA k.pn k.pc, .int .i64 k.here, .slice k.dA k.dn k.dc, .slice k.rA k.rn k.rc, .slice k.fA k.fn k.fc, .slice k.wA k.wn k.wc, .int .i64 k.last, .slice k.oA k.on k.oc, .slice k.qA k.qn k.qc, .bool k.qo, .slice k.eA k.en k.ec, .int .i64 k.free, .int .i64 k.next, .int .i64 k.arg, .int .i64 k.self, .int .i64 k.now, .slice k.hA k.hn k.hc] 36))
  have HC := Lib.hid (HF.out _ HB.out)
  clear HF
  go_enter Tryz.func25, Tryz.ntmps25
  go_wp2_with fail
  refine HC.out.mono ?_
  rintro e w1 ⟨rfl, bb⟩
  have HB1 := Lib.hid (below_then HB.out bb)
  clear bb HC
  go_wp2_with fail
  refine (rnames_any _).mono ?_
  rintro e w2 ⟨rfl, _, bb⟩
  have HB2 := Lib.hid (below_then HB1.out bb)
  clear bb
  go_wp2_with fail
  go_ret2
  exact ⟨rfl, HB2.out⟩
set_option maxRecDepth 100000 in
set_option maxHeartbeats 4000000 in
theorem kind_d (k : VmK) (n p : Int) (w : World) (h0 : (0 : Int) ≤ n) (h130 : decide (n < (130 : Int)) = false) (h256 : (256 : Int) ≤ n) (h260 : n ≤ (260 : Int)) (h300 : decide ((300 : Int) ≤ n) = false) (h337 : n < (337 : Int)) (HF : Hid (∀ a, Below w.heap.size w a → Calls Tryz.prog 38 #[.agg #[.slice k.mA k.mn k.mc, .slice k.pA k.pn k.pc], .int .i64 p] a fun e w' => e = .returned (.tuple #[.int .i64 n, .int .i64 0]) ∧ Below a.heap.size a w')) :
    Calls Tryz.prog 25 #[vmV k, .int .i64 p] w fun e w' => e = .returned (.tuple #[.int .i64 n, .int .i64 (0)]) ∧ Below w.heap.size w w' := by
  have HB := Lib.hid (al_one w (.cells #[.int .i64 k.cm, .int .i64 k.cd, .int .i64 k.cr, .int .i64 k.cw, .int .i64 k.co, .slice k.mA k.mn k.mc, .slice k.pA k.pn k.pc, .int .i64 k.here, .slice k.dA k.dn k.dc, .slice k.rA k.rn k.rc, .slice k.fA k.fn k.fc, .slice k.wA k.wn k.wc, .int .i64 k.last, .slice k.oA k.on k.oc, .slice k.qA k.qn k.qc, .bool k.qo, .slice k.eA k.en k.ec, .int .i64 k.free, .int .i64 k.next, .int .i64 k.arg, .int .i64 k.self, .int .i64 k.now, .slice k.hA k.hn k.hc] 36))
  have HC := Lib.hid (HF.out _ HB.out)
  clear HF
  go_enter Tryz.func25, Tryz.ntmps25
  go_wp2_with fail
  refine HC.out.mono ?_
  rintro e w1 ⟨rfl, bb⟩
  have HB1 := Lib.hid (below_then HB.out bb)
  clear bb HC
  go_wp2_with fail
  refine (rnames_any _).mono ?_
  rintro e w2 ⟨rfl, _, bb⟩
  have HB2 := Lib.hid (below_then HB1.out bb)
  clear bb
  go_wp2_with fail
  go_ret2
  exact ⟨rfl, HB2.out⟩
set_option maxRecDepth 100000 in
set_option maxHeartbeats 4000000 in
theorem kind_e (k : VmK) (n p : Int) (w : World) (h0 : (0 : Int) ≤ n) (h130 : decide (n < (130 : Int)) = false) (h256 : (256 : Int) ≤ n) (h260 : decide (n ≤ (260 : Int)) = false) (h300 : decide ((300 : Int) ≤ n) = false) (h337 : n < (337 : Int)) (HF : Hid (∀ a, Below w.heap.size w a → Calls Tryz.prog 38 #[.agg #[.slice k.mA k.mn k.mc, .slice k.pA k.pn k.pc], .int .i64 p] a fun e w' => e = .returned (.tuple #[.int .i64 n, .int .i64 0]) ∧ Below a.heap.size a w')) :
    Calls Tryz.prog 25 #[vmV k, .int .i64 p] w fun e w' => e = .returned (.tuple #[.int .i64 0, .int .i64 (-9)]) ∧ Below w.heap.size w w' := by
  have HB := Lib.hid (al_one w (.cells #[.int .i64 k.cm, .int .i64 k.cd, .int .i64 k.cr, .int .i64 k.cw, .int .i64 k.co, .slice k.mA k.mn k.mc, .slice k.pA k.pn k.pc, .int .i64 k.here, .slice k.dA k.dn k.dc, .slice k.rA k.rn k.rc, .slice k.fA k.fn k.fc, .slice k.wA k.wn k.wc, .int .i64 k.last, .slice k.oA k.on k.oc, .slice k.qA k.qn k.qc, .bool k.qo, .slice k.eA k.en k.ec, .int .i64 k.free, .int .i64 k.next, .int .i64 k.arg, .int .i64 k.self, .int .i64 k.now, .slice k.hA k.hn k.hc] 36))
  have HC := Lib.hid (HF.out _ HB.out)
  clear HF
  go_enter Tryz.func25, Tryz.ntmps25
  go_wp2_with fail
  refine HC.out.mono ?_
  rintro e w1 ⟨rfl, bb⟩
  have HB1 := Lib.hid (below_then HB.out bb)
  clear bb HC
  go_wp2_with fail
  refine (rnames_any _).mono ?_
  rintro e w2 ⟨rfl, _, bb⟩
  have HB2 := Lib.hid (below_then HB1.out bb)
  clear bb
  go_wp2_with fail
  go_ret2
  exact ⟨rfl, HB2.out⟩
set_option maxRecDepth 100000 in
set_option maxHeartbeats 4000000 in
theorem kind_f (k : VmK) (n p : Int) (w : World) (h0 : (0 : Int) ≤ n) (h130 : decide (n < (130 : Int)) = false) (h256 : (256 : Int) ≤ n) (h260 : decide (n ≤ (260 : Int)) = false) (h300 : (300 : Int) ≤ n) (h337 : n < (337 : Int)) (HF : Hid (∀ a, Below w.heap.size w a → Calls Tryz.prog 38 #[.agg #[.slice k.mA k.mn k.mc, .slice k.pA k.pn k.pc], .int .i64 p] a fun e w' => e = .returned (.tuple #[.int .i64 n, .int .i64 0]) ∧ Below a.heap.size a w')) :
    Calls Tryz.prog 25 #[vmV k, .int .i64 p] w fun e w' => e = .returned (.tuple #[.int .i64 n, .int .i64 (0)]) ∧ Below w.heap.size w w' := by
  have HB := Lib.hid (al_one w (.cells #[.int .i64 k.cm, .int .i64 k.cd, .int .i64 k.cr, .int .i64 k.cw, .int .i64 k.co, .slice k.mA k.mn k.mc, .slice k.pA k.pn k.pc, .int .i64 k.here, .slice k.dA k.dn k.dc, .slice k.rA k.rn k.rc, .slice k.fA k.fn k.fc, .slice k.wA k.wn k.wc, .int .i64 k.last, .slice k.oA k.on k.oc, .slice k.qA k.qn k.qc, .bool k.qo, .slice k.eA k.en k.ec, .int .i64 k.free, .int .i64 k.next, .int .i64 k.arg, .int .i64 k.self, .int .i64 k.now, .slice k.hA k.hn k.hc] 36))
  have HC := Lib.hid (HF.out _ HB.out)
  clear HF
  go_enter Tryz.func25, Tryz.ntmps25
  go_wp2_with fail
  refine HC.out.mono ?_
  rintro e w1 ⟨rfl, bb⟩
  have HB1 := Lib.hid (below_then HB.out bb)
  clear bb HC
  go_wp2_with fail
  refine (rnames_any _).mono ?_
  rintro e w2 ⟨rfl, _, bb⟩
  have HB2 := Lib.hid (below_then HB1.out bb)
  clear bb
  go_wp2_with fail
  refine (rspecials_any _).mono ?_
  rintro e w3 ⟨rfl, _, bb⟩
  have HB3 := Lib.hid (below_then HB2.out bb)
  clear bb
  go_wp2_with fail
  go_ret2
  exact ⟨rfl, HB3.out⟩
set_option maxRecDepth 100000 in
set_option maxHeartbeats 4000000 in
theorem kind_g (k : VmK) (n p : Int) (w : World) (h0 : (0 : Int) ≤ n) (h130 : decide (n < (130 : Int)) = false) (h256 : (256 : Int) ≤ n) (h260 : decide (n ≤ (260 : Int)) = false) (h300 : (300 : Int) ≤ n) (h337 : decide (n < (337 : Int)) = false) (HF : Hid (∀ a, Below w.heap.size w a → Calls Tryz.prog 38 #[.agg #[.slice k.mA k.mn k.mc, .slice k.pA k.pn k.pc], .int .i64 p] a fun e w' => e = .returned (.tuple #[.int .i64 n, .int .i64 0]) ∧ Below a.heap.size a w')) :
    Calls Tryz.prog 25 #[vmV k, .int .i64 p] w fun e w' => e = .returned (.tuple #[.int .i64 0, .int .i64 (-9)]) ∧ Below w.heap.size w w' := by
  have HB := Lib.hid (al_one w (.cells #[.int .i64 k.cm, .int .i64 k.cd, .int .i64 k.cr, .int .i64 k.cw, .int .i64 k.co, .slice k.mA k.mn k.mc, .slice k.pA k.pn k.pc, .int .i64 k.here, .slice k.dA k.dn k.dc, .slice k.rA k.rn k.rc, .slice k.fA k.fn k.fc, .slice k.wA k.wn k.wc, .int .i64 k.last, .slice k.oA k.on k.oc, .slice k.qA k.qn k.qc, .bool k.qo, .slice k.eA k.en k.ec, .int .i64 k.free, .int .i64 k.next, .int .i64 k.arg, .int .i64 k.self, .int .i64 k.now, .slice k.hA k.hn k.hc] 36))
  have HC := Lib.hid (HF.out _ HB.out)
  clear HF
  go_enter Tryz.func25, Tryz.ntmps25
  go_wp2_with fail
  refine HC.out.mono ?_
  rintro e w1 ⟨rfl, bb⟩
  have HB1 := Lib.hid (below_then HB.out bb)
  clear bb HC
  go_wp2_with fail
  refine (rnames_any _).mono ?_
  rintro e w2 ⟨rfl, _, bb⟩
  have HB2 := Lib.hid (below_then HB1.out bb)
  clear bb
  go_wp2_with fail
  refine (rspecials_any _).mono ?_
  rintro e w3 ⟨rfl, _, bb⟩
  have HB3 := Lib.hid (below_then HB2.out bb)
  clear bb
  go_wp2_with fail
  go_ret2
  exact ⟨rfl, HB3.out⟩
set_option maxRecDepth 100000 in
set_option maxHeartbeats 4000000 in
theorem kind_no (k : VmK) (C p : Int) (w : World) (hC : C ≠ 0) (HF : Hid (∀ a, Below w.heap.size w a → Calls Tryz.prog 38 #[.agg #[.slice k.mA k.mn k.mc, .slice k.pA k.pn k.pc], .int .i64 p] a fun e w' => ∃ n, e = .returned (.tuple #[.int .i64 n, .int .i64 C]) ∧ Below a.heap.size a w')) :
    Calls Tryz.prog 25 #[vmV k, .int .i64 p] w fun e w' => e = .returned (.tuple #[.int .i64 0, .int .i64 C]) ∧ Below w.heap.size w w' := by
  have HB := Lib.hid (al_one w (.cells #[.int .i64 k.cm, .int .i64 k.cd, .int .i64 k.cr, .int .i64 k.cw, .int .i64 k.co, .slice k.mA k.mn k.mc, .slice k.pA k.pn k.pc, .int .i64 k.here, .slice k.dA k.dn k.dc, .slice k.rA k.rn k.rc, .slice k.fA k.fn k.fc, .slice k.wA k.wn k.wc, .int .i64 k.last, .slice k.oA k.on k.oc, .slice k.qA k.qn k.qc, .bool k.qo, .slice k.eA k.en k.ec, .int .i64 k.free, .int .i64 k.next, .int .i64 k.arg, .int .i64 k.self, .int .i64 k.now, .slice k.hA k.hn k.hc] 36))
  have HC := Lib.hid (HF.out _ HB.out)
  have c1 : ((C : Int) != 0) = true := by simpa using hC
  have c2 : ((C : Int) == 0) = false := by simpa using hC
  clear HF hC
  go_enter Tryz.func25, Tryz.ntmps25
  go_wp2_with fail
  refine HC.out.mono ?_
  rintro e w1 ⟨n, rfl, bb⟩
  have HB1 := Lib.hid (below_then HB.out bb)
  clear bb HC
  go_wp2_with fail
  go_ret2
  exact ⟨rfl, HB1.out⟩
theorem rvkind_any (k : VmK) (m : PM) (p : Int) (w : World) (HM : Hid (IsMem w (.agg #[.slice k.mA k.mn k.mc, .slice k.pA k.pn k.pc]) m)) (hL : k.mn ≤ 65536) :
    Calls Tryz.prog 25 #[vmV k, .int .i64 p] w fun e w' => e = .returned (.tuple #[.int .i64 (kindV m k.mn p), .int .i64 (kindC m k.mn p)]) ∧ Below w.heap.size w w' := by
  have HF : ∀ a, Below w.heap.size w a → Calls Tryz.prog 38 #[.agg #[.slice k.mA k.mn k.mc, .slice k.pA k.pn k.pc], .int .i64 p] a fun e w' => e = .returned (.tuple #[.int .i64 (fetchF m p), .int .i64 (cellC k.mn p)]) ∧ Below a.heap.size a w' :=
    fun a b => rfetch_at k.mA k.pA k.mn k.mc k.pn k.pc m p a (Lib.hid (HM.out.keep b)) hL
  obtain ⟨n, hn⟩ : ∃ n, fetchF m p = n := ⟨_, rfl⟩
  obtain ⟨C, hC⟩ : ∃ C, cellC k.mn p = C := ⟨_, rfl⟩
  unfold kindV kindC
  rw [hn, hC] at HF ⊢
  by_cases h0 : C = 0
  · subst h0
    cases hb : codeB n with
    | true =>
      rw [if_pos ⟨rfl, rfl⟩, if_pos rfl, if_pos rfl]
      have hb' : (0 ≤ n ∧ n < 130) ∨ (256 ≤ n ∧ n ≤ 260) ∨ (300 ≤ n ∧ n < 337) := by unfold codeB at hb; simpa using hb
      rcases hb' with h | h | h
      · exact kind_a k n p w (by omega) (by omega) (by simp; omega) (by omega) (by simp; omega) (by omega) (Lib.hid HF)
      · exact kind_d k n p w (by omega) (by simp; omega) (by omega) (by omega) (by simp; omega) (by omega) (Lib.hid HF)
      · exact kind_f k n p w (by omega) (by simp; omega) (by omega) (by simp; omega) (by omega) (by omega) (Lib.hid HF)
    | false =>
      rw [if_neg (by simp), if_pos rfl, if_neg (by simp)]
      have hb' : ¬ ((0 ≤ n ∧ n < 130) ∨ (256 ≤ n ∧ n ≤ 260) ∨ (300 ≤ n ∧ n < 337)) := by unfold codeB at hb; simpa using hb
      by_cases h1 : n < 0
      · exact kind_b k n p w (by simp; omega) (by omega) (by simp; omega) (by omega) (by simp; omega) (by omega) (Lib.hid HF)
      · by_cases h2 : n < 256
        · exact kind_c k n p w (by omega) (by simp; omega) (by simp; omega) (by omega) (by simp; omega) (by omega) (Lib.hid HF)
        · by_cases h3 : n < 300
          · exact kind_e k n p w (by omega) (by simp; omega) (by omega) (by simp; omega) (by simp; omega) (by omega) (Lib.hid HF)
          · exact kind_g k n p w (by omega) (by simp; omega) (by omega) (by simp; omega) (by omega) (by simp; omega) (Lib.hid HF)
  · rw [if_neg (fun h => h0 h.1), if_neg h0]
    exact kind_no k C p w h0 (Lib.hid fun a b => (HF a b).mono fun e w' h => ⟨n, h.1, h.2⟩)
end Go.Proofs.YtbighilgkmfemaaGreatDoor

/- Contracts of the program's isFrom, Fits, isKind, Kind, Names, Specials, Start. -/
namespace Go.Proofs.YtbighilgkmfemaaGreatDoor
open Go.RowKit
set_option linter.unusedVariables false
set_option linter.unusedSimpArgs false

set_option maxRecDepth 100000 in
set_option maxHeartbeats 4000000 in
theorem isfrom_any (n a b : Int) (w : World) : Calls Tryz.prog 45 #[.int .i64 n, .int .i64 a, .int .i64 b] w fun e w' => e = .returned (.bool (decide (a ≤ n ∧ n ≤ b))) ∧ w = w' := by
  go_enter Tryz.func45, Tryz.ntmps45
  go_wp2
  all_goals go_ret
  all_goals refine ⟨ret_bool ?_, rfl⟩
  all_goals (rw [Bool.eq_iff_iff]; simp only [decide_eq_true_eq, Bool.and_eq_true, Bool.or_eq_true, Bool.false_eq_true, true_iff, false_iff, iff_true, iff_false]; omega)
set_option maxRecDepth 100000 in
set_option maxHeartbeats 4000000 in
theorem fits_any (m d r v o : Int) (w : World) : Calls Tryz.prog 17 #[.agg #[.int .i64 m, .int .i64 d, .int .i64 r, .int .i64 v, .int .i64 o]] w fun e w' => e = .returned (.bool (fitsB m d r v o)) ∧ Below w.heap.size w w' := by
  obtain ⟨F, hF⟩ : ∃ F, fitsB m d r v o = F := ⟨_, rfl⟩
  have HF := Lib.hid hF
  rw [hF]
  clear hF
  go_enter Tryz.func17, Tryz.ntmps17
  go_wp2_with (go_at_call 45; refine (isfrom_any _ _ _ _).mono ?_; rintro e w' ⟨rfl, rfl⟩)
  all_goals go_ret
  all_goals refine ⟨ret_bool ?_, al_one _ _⟩
  all_goals rw [← HF.out]
  all_goals unfold fitsB
  all_goals (rw [Bool.eq_iff_iff]; simp only [decide_eq_true_eq, Bool.and_eq_true, Bool.or_eq_true, Bool.false_eq_true, true_iff, false_iff, iff_true, iff_false]; omega)
set_option maxRecDepth 100000 in
set_option maxHeartbeats 4000000 in
theorem iskind_any (n : Int) (w : World) : Calls Tryz.prog 71 #[.int .i64 n] w fun e w' => e = .returned (.bool (codeB n)) ∧ w = w' := by
  obtain ⟨F, hF⟩ : ∃ F, codeB n = F := ⟨_, rfl⟩
  have HF := Lib.hid hF
  rw [hF]
  clear hF
  go_enter Tryz.func71, Tryz.ntmps71
  go_wp2_with (go_at_call 45; refine (isfrom_any _ _ _ _).mono ?_; rintro e w' ⟨rfl, rfl⟩)
  all_goals go_ret
  all_goals refine ⟨ret_bool ?_, rfl⟩
  all_goals rw [← HF.out]
  all_goals unfold codeB
  all_goals (rw [Bool.eq_iff_iff]; simp only [decide_eq_true_eq, Bool.and_eq_true, Bool.or_eq_true, Bool.false_eq_true, true_iff, false_iff, iff_true, iff_false]; omega)
set_option maxRecDepth 100000 in
set_option maxHeartbeats 4000000 in
theorem vkind_any (k : VmK) (m : PM) (p : Int) (w : World) (HM : Hid (IsMem w (.agg #[.slice k.mA k.mn k.mc, .slice k.pA k.pn k.pc]) m)) (hL : k.mn ≤ 65536) :
    Calls Tryz.prog 24 #[vmV k, .int .i64 p] w fun e w' => e = .returned (.tuple #[.int .i64 (kindV m k.mn p), .int .i64 (kindC m k.mn p)]) ∧ Below w.heap.size w w' := by
  have kk := al_one w (.cells #[.int .i64 k.cm, .int .i64 k.cd, .int .i64 k.cr, .int .i64 k.cw, .int .i64 k.co, .slice k.mA k.mn k.mc, .slice k.pA k.pn k.pc, .int .i64 k.here, .slice k.dA k.dn k.dc, .slice k.rA k.rn k.rc, .slice k.fA k.fn k.fc, .slice k.wA k.wn k.wc, .int .i64 k.last, .slice k.oA k.on k.oc, .slice k.qA k.qn k.qc, .bool k.qo, .slice k.eA k.en k.ec, .int .i64 k.free, .int .i64 k.next, .int .i64 k.arg, .int .i64 k.self, .int .i64 k.now, .slice k.hA k.hn k.hc] 36)
  have HB := Lib.hid kk
  have HC := Lib.hid (fetch_at k.mA k.pA k.mn k.mc k.pn k.pc m p _ (Lib.hid (HM.out.keep kk)) hL)
  clear kk
  obtain ⟨V, hV⟩ : ∃ V, kindV m k.mn p = V := ⟨_, rfl⟩
  obtain ⟨E, hE⟩ : ∃ E, kindC m k.mn p = E := ⟨_, rfl⟩
  have HV : Hid (V = kindV m k.mn p) := hV.symm
  have HE : Hid (E = kindC m k.mn p) := hE.symm
  rw [hV, hE]
  clear hV hE
  unfold kindV at HV
  unfold kindC at HE
  obtain ⟨C, hC⟩ : ∃ C, cellC k.mn p = C := ⟨_, rfl⟩
  obtain ⟨F, hF⟩ : ∃ F, fetchF m p = F := ⟨_, rfl⟩
  rw [hC, hF] at HC HV HE
  clear hC hF HM
  by_cases h0 : C = 0
  · subst h0
    obtain ⟨b, hb⟩ : ∃ b, codeB F = b := ⟨_, rfl⟩
    have Hb := Lib.hid hb
    clear hb
    go_enter Tryz.func24, Tryz.ntmps24
    go_wp2_with fail
    refine HC.out.mono ?_
    rintro e w1 ⟨rfl, bb⟩
    have HB1 := Lib.hid (below_then HB.out bb)
    have HK := Lib.hid (iskind_any F w1)
    rw [Hb.out] at HK
    clear bb HC
    cases b with
    | true =>
      have H1 : Hid (V = F) := by show _ = _; rw [HV.out, Hb.out]; rfl
      have H2 : Hid (E = 0) := by show _ = _; rw [HE.out, Hb.out]; rfl
      clear HV HE
      go_wp2_with (go_at_call 71; refine HK.out.mono ?_; rintro e w' ⟨rfl, rfl⟩)
      go_ret2
      exact ⟨by rw [H1.out, H2.out]; rfl, HB1.out⟩
    | false =>
      have H1 : Hid (V = 0) := by show _ = _; rw [HV.out, Hb.out]; rfl
      have H2 : Hid (E = -9) := by show _ = _; rw [HE.out, Hb.out]; rfl
      clear HV HE
      go_wp2_with (go_at_call 71; refine HK.out.mono ?_; rintro e w' ⟨rfl, rfl⟩)
      go_ret2
      exact ⟨by rw [H1.out, H2.out]; rfl, HB1.out⟩
  · have H1 : Hid (V = 0) := by show _ = _; rw [HV.out, if_neg (fun h => h0 h.1)]
    have H2 : Hid (E = C) := by show _ = _; rw [HE.out, if_neg h0]
    have hz : (C == 0) = false := by simpa using h0
    clear HV HE
    go_enter Tryz.func24, Tryz.ntmps24
    go_wp2_with fail
    refine HC.out.mono ?_
    rintro e w1 ⟨rfl, bb⟩
    have HB1 := Lib.hid (below_then HB.out bb)
    clear bb HC
    go_wp2_with fail
    go_ret2
    exact ⟨by rw [H1.out, H2.out]; rfl, HB1.out⟩
set_option maxRecDepth 100000 in
def primT : List UInt8 := [10, 40, 101, 120, 105, 116, 41, 32, 40, 108, 105, 116, 41, 32, 40, 98, 114, 97, 110, 99, 104, 41, 32, 40, 48, 98, 114, 97, 110, 99, 104, 41, 32, 40, 100, 111, 41, 32, 40, 63, 100, 111, 41, 32, 40, 108, 111, 111, 112, 41, 32, 40, 43, 108, 111, 111, 112, 41, 32, 40, 104, 97, 108, 116, 41, 32, 40, 99, 97, 117, 103, 104, 116, 41, 10, 40, 100, 111, 101, 115, 41, 32, 40, 115, 116, 114, 41, 32, 69, 88, 69, 67, 85, 84, 69, 32, 67, 65, 84, 67, 72, 32, 84, 72, 82, 79, 87, 32, 73, 32, 74, 32, 85, 78, 76, 79, 79, 80, 32, 62, 82, 32, 82, 62, 10, 82, 64, 32, 50, 62, 82, 32, 50, 82, 62, 32, 68, 85, 80, 32, 68, 82, 79, 80, 32, 83, 87, 65, 80, 32, 79, 86, 69, 82, 32, 82, 79, 84, 32, 45, 82, 79, 84, 32, 78, 73, 80, 10, 84, 85, 67, 75, 32, 63, 68, 85, 80, 32, 50, 68, 85, 80, 32, 50, 68, 82, 79, 80, 32, 50, 83, 87, 65, 80, 32, 50, 79, 86, 69, 82, 32, 80, 73, 67, 75, 32, 82, 79, 76, 76, 32, 68, 69, 80, 84, 72, 32, 43, 10, 45, 32, 42, 32, 47, 32, 77, 79, 68, 32, 65, 78, 68, 32, 79, 82, 32, 88, 79, 82, 32, 76, 83, 72, 73, 70, 84, 32, 82, 83, 72, 73, 70, 84, 32, 77, 73, 78, 10, 77, 65, 88, 32, 61, 32, 60, 62, 32, 60, 32, 62, 32, 60, 61, 32, 62, 61, 32, 85, 60, 32, 85, 62, 32, 78, 69, 71, 65, 84, 69, 10, 65, 66, 83, 32, 73, 78, 86, 69, 82, 84, 32, 49, 43, 32, 49, 45, 32, 50, 42, 32, 50, 47, 32, 48, 61, 32, 48, 60, 32, 48, 60, 62, 32, 48, 62, 10, 67, 69, 76, 76, 83, 32, 67, 69, 76, 76, 43, 32, 65, 76, 73, 71, 78, 69, 68, 32, 47, 77, 79, 68, 32, 42, 47, 32, 42, 47, 77, 79, 68, 32, 85, 77, 42, 32, 85, 77, 47, 77, 79, 68, 32, 77, 42, 32, 83, 77, 47, 82, 69, 77, 10, 70, 77, 47, 77, 79, 68, 32, 83, 62, 68, 32, 87, 73, 84, 72, 73, 78, 32, 64, 32, 33, 32, 43, 33, 32, 67, 64, 32, 67, 33, 32, 50, 64, 32, 50, 33, 10, 70, 73, 76, 76, 32, 77, 79, 86, 69, 32, 67, 79, 85, 78, 84, 32, 72, 69, 82, 69, 32, 65, 76, 76, 79, 84, 32, 44, 32, 67, 44, 32, 65, 76, 73, 71, 78, 32, 66, 65, 83, 69, 32, 83, 84, 65, 84, 69, 10, 84, 82, 85, 69, 32, 70, 65, 76, 83, 69, 32, 66, 76, 32, 68, 69, 67, 73, 77, 65, 76, 32, 72, 69, 88, 32, 69, 77, 73, 84, 32, 67, 82, 32, 83, 80, 65, 67, 69, 32, 83, 80, 65, 67, 69, 83, 32, 84, 89, 80, 69, 10, 46, 32, 85, 46, 32, 60, 35, 32, 35, 32, 35, 83, 32, 72, 79, 76, 68, 32, 83, 73, 71, 78, 32, 35, 62, 32, 62, 66, 79, 68, 89, 32, 65, 66, 79, 82, 84, 10, 80, 79, 83, 84, 32, 65, 70, 84, 69, 82, 32, 69, 86, 69, 82, 89, 32, 67, 65, 78, 67, 69, 76, 32, 65, 82, 71, 32, 83, 69, 76, 70, 32, 78, 79, 87, 32, 83, 69, 84, 45, 83, 84, 65, 84, 69, 32, 65, 84, 45, 83, 84, 65, 84, 69, 32, 71, 69, 84, 45, 83, 84, 65, 84, 69, 10]
set_option maxRecDepth 100000 in
def specT : List UInt8 := [10, 58, 32, 59, 32, 67, 82, 69, 65, 84, 69, 32, 68, 79, 69, 83, 62, 32, 86, 65, 82, 73, 65, 66, 76, 69, 32, 67, 79, 78, 83, 84, 65, 78, 84, 32, 73, 77, 77, 69, 68, 73, 65, 84, 69, 32, 39, 32, 91, 39, 93, 32, 67, 72, 65, 82, 10, 91, 67, 72, 65, 82, 93, 32, 76, 73, 84, 69, 82, 65, 76, 32, 80, 79, 83, 84, 80, 79, 78, 69, 32, 82, 69, 67, 85, 82, 83, 69, 32, 73, 70, 32, 69, 76, 83, 69, 32, 84, 72, 69, 78, 32, 66, 69, 71, 73, 78, 32, 87, 72, 73, 76, 69, 32, 82, 69, 80, 69, 65, 84, 10, 85, 78, 84, 73, 76, 32, 65, 71, 65, 73, 78, 32, 68, 79, 32, 63, 68, 79, 32, 76, 79, 79, 80, 32, 43, 76, 79, 79, 80, 32, 76, 69, 65, 86, 69, 32, 83, 34, 32, 46, 34, 32, 40, 10, 92, 32, 91, 32, 93, 32, 70, 79, 82, 71, 69, 84, 32, 77, 65, 67, 72, 73, 78, 69, 32, 79, 78, 58, 32, 69, 88, 73, 84, 10]
theorem prim_fields : Lib.fields primT = primL := by kernel_rfl
theorem spec_fields : Lib.fields specT = specL := by kernel_rfl
set_option maxRecDepth 100000 in
set_option maxHeartbeats 4000000 in
theorem names_any (w : World) (HT : Tab w) : Calls Tryz.prog 11 #[] w fun e w' => e = .returned (.slice (some ⟨w.heap.size, 0, none⟩) 130 130) ∧ Sts w' (.slice (some ⟨w.heap.size, 0, none⟩) 130 130) primL ∧ Below w.heap.size w w' := by
  have HC := Lib.hid (fields_any primT w (by rw [show primT.length = 623 from by kernel_rfl]; decide) (by kernel_rfl) HT primL prim_fields)
  clear HT
  go_enter Tryz.func11, Tryz.ntmps11
  go_wp2_with fail
  refine HC.out.mono ?_
  rintro e w1 ⟨rfl, rfl⟩
  go_wp2_with fail
  go_ret
  exact ⟨rfl, sts_block (l := primL) (one_newN w _ _) (by decide), al_one _ _⟩
set_option maxRecDepth 100000 in
set_option maxHeartbeats 4000000 in
theorem specials_any (w : World) (HT : Tab w) : Calls Tryz.prog 13 #[] w fun e w' => e = .returned (.slice (some ⟨w.heap.size, 0, none⟩) 37 37) ∧ Sts w' (.slice (some ⟨w.heap.size, 0, none⟩) 37 37) specL ∧ Below w.heap.size w w' := by
  have HC := Lib.hid (fields_any specT w (by rw [show specT.length = 195 from by kernel_rfl]; decide) (by kernel_rfl) HT specL spec_fields)
  clear HT
  go_enter Tryz.func13, Tryz.ntmps13
  go_wp2_with fail
  refine HC.out.mono ?_
  rintro e w1 ⟨rfl, rfl⟩
  go_wp2_with fail
  go_ret
  exact ⟨rfl, sts_block (l := specL) (one_newN w _ _) (by decide), al_one _ _⟩
set_option maxRecDepth 100000 in
set_option maxHeartbeats 4000000 in
theorem start_any (w : World) : Calls Tryz.prog 15 #[] w fun e w' => e = .returned (.int .i64 1368) ∧ w = w' := by
  go_enter Tryz.func15, Tryz.ntmps15
  go_wp2
  go_ret
  exact ⟨rfl, rfl⟩
end Go.Proofs.YtbighilgkmfemaaGreatDoor

/- The map of flags: give, flags. -/
namespace Go.Proofs.YtbighilgkmfemaaGreatDoor
open Go.RowKit Go.Maps Go.WideMaps
set_option linter.unusedVariables false
set_option linter.unusedSimpArgs false

theorem sts_take {w : World} {A : Option Addr} {n c : Nat} {l : List (List UInt8)} (h : Sts w (.slice A n c) l) {k : Nat} (hk : k ≤ n) : Sts w (.slice A k c) (l.take k) := by
  have hl := h.len
  obtain ⟨A', c', e, h1, h2, h3⟩ := h
  injection e with e1 e2 e3
  subst e1 e3
  have hlk : (l.take k).length = k := by rw [List.length_take]; omega
  refine ⟨A, c, by rw [hlk], by omega, h2, ?_⟩
  rcases h3 with h3 | ⟨g, o, e, hg, hc⟩
  · left
    have := congrArg List.length h3
    rw [sts_len] at this
    have h0 : l = [] := List.eq_nil_of_length_eq_zero this
    subst h0
    simp [sts]
  · right
    refine ⟨g, o, e, hg, fun j v hv => hc j v ?_⟩
    have hj := (List.getElem?_eq_some_iff.1 hv).1
    rw [sts_len, hlk] at hj
    rw [← hv]
    unfold sts
    rw [List.getElem?_map, List.getElem?_map, List.getElem?_take_of_lt hj]
theorem slaw : Keyed Tryz.prog 9 := string_keyed Tryz.underlying9
theorem zero_int (w : World) : (zeroValue 3).run Tryz.prog w = .ok (.int .i64 0) w := by kernel_rfl
theorem key_of {s : List UInt8} (hs : s.length ≤ 65536) : keyOf Tryz.prog 9 (.string (strB s)) = some (.string s) := by
  have h := keyOf_string_mk (s := strB s) Tryz.underlying9 (by show s.length ≤ _; unfold maxLen; omega)
  have e : (strB s).data.toList = s := by simp [strB]
  rw [e] at h
  exact h
/-- A map of numbers that answers f. -/
def MapF (w : World) (b n : Nat) (D : DataW Unit) (f : List UInt8 → Int) : Prop := w.ownsMap Tryz.prog 9 (plainElem Tryz.prog 3) b n D ∧ IsMap D ∧ ∀ s, D.atKey (.string s) (.lit (.int .i64 0)) = .lit (.int .i64 (f s))
theorem MapF.kept {w w' : World} {b n : Nat} {D : DataW Unit} {f : List UInt8 → Int} (h : MapF w b n D f) (x : Below w.heap.size w w') : MapF w' b n D f :=
  ⟨h.1.kept (row := none) ⟨x.os, x.tape, x.output, x.size, fun k hk _ => x.block k hk⟩ (by simp), h.2⟩
theorem MapF.look {w : World} {b n : Nat} {D : DataW Unit} {f : List UInt8 → Int} (h : MapF w b n D f) {s : List UInt8} (hs : s.length ≤ 65536) : (Instr.lookup 121 (.map (some b)) (.string (strB s)) false).run Tryz.prog w = .ok (.int .i64 (f s)) w := by
  obtain ⟨c, hrun, hat, _⟩ := h.1.lookup_int slaw Tryz.underlying121 Tryz.underlying3 (zero_int w) (key_of hs)
  rw [h.2.2] at hat
  simp only [DataW.lit.injEq, Lit.int.injEq, true_and] at hat
  rw [hat]
  exact hrun
theorem mapf_made (w : World) : MapF (w.alloc (.map #[] 0)) w.heap.size 0 (.map []) (fun _ => 0) := ⟨World.ownsMap_made _ _ _ _, isMap_empty, fun s => rfl⟩
/-- What a name is given. -/
def giveF (f : List UInt8 → Int) (sum : Int) (ls : List (List UInt8)) (s : List UInt8) : Int := if s ∈ ls then sum else f s
theorem give_nil (f : List UInt8 → Int) (sum : Int) : giveF f sum [] = f := by funext s; simp [giveF]
theorem give_put {D : DataW Unit} {f : List UInt8 → Int} {sum : Int} {ls : List (List UInt8)} {x : List UInt8} (hD : IsMap D) (h : ∀ s, D.atKey (.string s) (.lit (.int .i64 0)) = .lit (.int .i64 (giveF f sum ls s))) :
    IsMap (D.put (.string x) (.lit (.int .i64 sum))) ∧ ∀ s, (D.put (.string x) (.lit (.int .i64 sum))).atKey (.string s) (.lit (.int .i64 0)) = .lit (.int .i64 (giveF f sum (ls ++ [x]) s)) := by
  refine ⟨?_, fun s => ?_⟩
  · obtain ⟨es, rfl⟩ := hD
    exact ⟨_, rfl⟩
  · by_cases e : s = x
    · subst e
      rw [atKey_put_same hD (by trivial)]
      simp [giveF]
    · rw [atKey_put_other (by intro h2; injection h2 with h2; exact e h2), h]
      simp [giveF, e]
set_option maxRecDepth 100000 in
set_option maxHeartbeats 4000000 in
theorem give_any (b n : Nat) (D : DataW Unit) (f : List UInt8 → Int) (sum : Int) (A : Option Addr) (m c : Nat) (ls : List (List UInt8)) (w : World) (HM : Hid (MapF w b n D f)) (HS : Hid (Sts w (.slice A m c) ls)) (hn : n ≤ 1000) (hm : m ≤ 1000) (hls : ∀ x ∈ ls, x.length ≤ 65536) (hsum : (Lit.int .i64 sum).wf = true) :
    Calls Tryz.prog 115 #[.map (some b), .int .i64 sum, .slice A m c] w fun e w' => e = .returned (.tuple #[]) ∧ ∃ D', MapF w' b (n + m) D' (giveF f sum ls) ∧ w.grownBy w' (some b) := by
  have HL := Lib.hid HS.out.len
  have HLS := Lib.hid hls
  clear hls
  go_enter Tryz.func115, Tryz.ntmps115
  go_wp2_with fail
  go_loopw [10] (fun s10 wr => ∃ (k : Nat), s10 = .int .i64 (k : Int) ∧ k ≤ m ∧ Hid (∃ D', MapF wr b (n + k) D' (giveF f sum (ls.take k))) ∧ Hid (w.grownBy wr (some b))) (fun s10 _ => m - (intOf s10).toNat)
  case atStart => exact ⟨0, rfl, Nat.zero_le _, Lib.hid ⟨D, by rw [List.take_zero, give_nil]; exact HM.out⟩, Lib.hid (World.grownBy.refl w _)⟩
  case round =>
    obtain ⟨k, rfl, hk, HD, HG⟩ := hrel
    by_cases hkm : k < m
    · have hkm' : (k : Int) < (m : Int) := by omega
      obtain ⟨g, o, hA, hc0⟩ := sts_cell HS.out (k := k) (by have := HL.out; omega)
      have hmb := HM.out.1
      have hgb : g ≠ b := by
        rintro rfl
        obtain ⟨es, clock, hb, _⟩ := hmb
        unfold World.cell? at hc0
        rw [hb] at hc0
        cases hc0
      have hc := HG.out.cell hc0 (by show some g ≠ some b; intro e; injection e with e; exact hgb e)
      have hx : ls[k]? = some (ls[k]'(by have := HL.out; omega)) := List.getElem?_eq_getElem _
      obtain ⟨x, ex⟩ : ∃ x, ls[k]'(by have := HL.out; omega) = x := ⟨_, rfl⟩
      rw [ex] at hc hx
      have hxl : x.length ≤ 65536 := HLS.out x (List.mem_of_getElem? hx)
      obtain ⟨D', hD'⟩ := HD.out
      obtain ⟨hown, hism, hat⟩ := hD'
      have HP := Lib.hid (give_put (x := x) hism hat)
      have HOWN := Lib.hid hown
      have HT : Hid (ls.take (k + 1) = ls.take k ++ [x]) := by show _ = _; rw [List.take_add_one, hx]; rfl
      have HKEY := Lib.hid (key_of hxl)
      subst hA
      clear hc0 hmb hgb hx ex hxl hown hism hat
      go_wp2_with (at_mapUpdate; refine wpList_mapUpdate_own _ rfl _ _ _ 121 rfl 9 3 slaw Tryz.underlying121 _ b (n + k) _ rfl HOWN.out (by unfold maxLen; omega) _ _ _ rfl rfl HKEY.out _ [] (plainElem_int Tryz.underlying3 hsum) ?_; intro w1 own1 gr1; have HO1 := Lib.hid own1; have HG1 := Lib.hid gr1; clear own1 gr1)
      go_roundw
      case rel => exact ⟨k + 1, by simp, by omega, Lib.hid ⟨_, by rw [HT.out]; exact ⟨HO1.out, HP.out⟩⟩, Lib.hid (HG.out.trans HG1.out)⟩
      case measure => simp [intOf]; omega
    · obtain rfl : k = m := by omega
      have HD2 : Hid (∃ D', MapF wr b (n + k) D' (giveF f sum ls)) := by
        have := HD.out
        rw [List.take_of_length_le (by have := HL.out; omega)] at this
        exact this
      have hkk : decide ((k : Int) < (k : Int)) = false := by simp
      clear hkm hk HD
      go_wp2_with fail
      refine bodyPost_end (v := .tuple #[]) ?_ rfl ?_
      · simp [results, Tryz.results115, go_sem]
      · obtain ⟨D', hD'⟩ := HD2.out
        exact ⟨rfl, D', hD', HG.out⟩
set_option maxRecDepth 100000 in
def onlyT : List UInt8 := [73, 32, 74, 32, 85, 78, 76, 79, 79, 80, 32, 62, 82, 32, 82, 62, 32, 82, 64, 32, 50, 62, 82, 32, 50, 82, 62]
theorem only_fields : Lib.fields onlyT = onlyL := by kernel_rfl
set_option maxRecDepth 100000 in
def bothT : List UInt8 := [10, 9, 9, 59, 32, 68, 79, 69, 83, 62, 32, 91, 39, 93, 32, 91, 67, 72, 65, 82, 93, 32, 76, 73, 84, 69, 82, 65, 76, 32, 80, 79, 83, 84, 80, 79, 78, 69, 32, 82, 69, 67, 85, 82, 83, 69, 32, 73, 70, 32, 69, 76, 83, 69, 32, 84, 72, 69, 78, 32, 66, 69, 71, 73, 78, 32, 87, 72, 73, 76, 69, 10, 9, 9, 82, 69, 80, 69, 65, 84, 32, 85, 78, 84, 73, 76, 32, 65, 71, 65, 73, 78, 32, 68, 79, 32, 63, 68, 79, 32, 76, 79, 79, 80, 32, 43, 76, 79, 79, 80, 32, 76, 69, 65, 86, 69, 32, 83, 34, 32, 69, 88, 73, 84]
theorem both_fields : Lib.fields bothT = bothL := by kernel_rfl
set_option maxRecDepth 100000 in
def nowT : List UInt8 := [46, 34, 32, 40, 32, 92, 32, 91]
theorem now_fields : Lib.fields nowT = nowL := by kernel_rfl
/-- The flags that the map tells. -/
def mapFlag (s : List UInt8) : Int := giveF (giveF (giveF (giveF (fun _ => 0) 6 (primL.take 12)) 4 onlyL) 5 bothL) 1 nowL s
theorem flag_same : ∀ i, i < 167 → mapFlag (nmN i) = flagF (nmN i) i := by decide +kernel
theorem small_prim : ∀ x ∈ primL.take 12, x.length ≤ 65536 := by decide +kernel
theorem small_only : ∀ x ∈ onlyL, x.length ≤ 65536 := by decide +kernel
theorem small_both : ∀ x ∈ bothL, x.length ≤ 65536 := by decide +kernel
theorem small_now : ∀ x ∈ nowL, x.length ≤ 65536 := by decide +kernel
theorem Tab.grown {w w' : World} {b n : Nat} {D : DataW Unit} {f : List UInt8 → Int} (h : Tab w) (hm : MapF w b n D f) (g : w.grownBy w' (some b)) : Tab w' := fun c hc => by
  refine g.cell (h c hc) ?_
  show some 0 ≠ some b
  intro e
  injection e with e
  have hx := h c hc
  obtain ⟨es, clock, hb, _⟩ := hm.1
  rw [← e] at hb
  unfold World.cell? at hx
  rw [hb] at hx
  cases hx
end Go.Proofs.YtbighilgkmfemaaGreatDoor

/- What stands ahead of Start, as the program lays it: plain facts. -/
namespace Go.Proofs.YtbighilgkmfemaaGreatDoor
open Go.RowKit
set_option linter.unusedVariables false
set_option linter.unusedSimpArgs false

/-- The byte at a place, when n code fields are laid, and the three cells ahead of them. -/
def byteH (n j : Nat) : UInt8 :=
  if j = 0 then 10 else if j = 16 then 96 else if j = 24 then 104
  else if 32 ≤ j ∧ j < 32 + 8 * n then (if j % 8 = 0 then UInt8.ofNat (numN ((j - 32) / 8) % 256) else if j % 8 = 1 then UInt8.ofNat (numN ((j - 32) / 8) / 256) else 0) else 0
def rowH (L n : Nat) : List UInt8 := (List.range L).map (byteH n)
theorem rowH_len (L n : Nat) : (rowH L n).length = L := by unfold rowH; simp
theorem un_small {v : Nat} (h : v < 65536) : un (v : Int) = v := by
  unfold un
  simp [IntKind.wrap, IntKind.bits, IntKind.signed]
  omega
theorem cell_small {v : Nat} (h : v < 65536) : cellBytes (v : Int) = [UInt8.ofNat (v % 256), UInt8.ofNat (v / 256), 0, 0, 0, 0, 0, 0] := by
  unfold cellBytes
  rw [un_small h]
  unfold byteOf
  have e1 : v / 256 ^ 1 % 256 = v / 256 := by omega
  have e2 : v / 256 ^ 2 % 256 = 0 := by omega
  have e3 : v / 256 ^ 3 % 256 = 0 := by omega
  have e4 : v / 256 ^ 4 % 256 = 0 := by omega
  have e5 : v / 256 ^ 5 % 256 = 0 := by omega
  have e6 : v / 256 ^ 6 % 256 = 0 := by omega
  have e7 : v / 256 ^ 7 % 256 = 0 := by omega
  rw [e1, e2, e3, e4, e5, e6, e7, Nat.pow_zero, Nat.div_one]
  rfl
theorem splice_at {α : Type} (l b : List α) (q j : Nat) (h : q + b.length ≤ l.length) : (splice l q b)[j]? = if q ≤ j ∧ j < q + b.length then b[j - q]? else l[j]? := by
  unfold splice
  by_cases h1 : j < q
  · rw [if_neg (by omega), List.getElem?_append_left (by simp; omega), List.getElem?_take_of_lt h1]
  · rw [List.getElem?_append_right (by simp; omega)]
    have e : (l.take q).length = q := by simp; omega
    rw [e]
    by_cases h2 : j - q < b.length
    · rw [if_pos (by omega), List.getElem?_append_left h2]
    · rw [if_neg (by omega), List.getElem?_append_right (by omega), List.getElem?_drop]
      congr 1
      omega
theorem lay8 {L p v : Nat} (f : Nat → UInt8) (hp : p + 8 ≤ L) (hv : v < 65536) :
    layF ((List.range L).map f) (p : Int) (cellBytes (v : Int)) = (List.range L).map fun j => if j = p then UInt8.ofNat (v % 256) else if j = p + 1 then UInt8.ofNat (v / 256) else if p ≤ j ∧ j < p + 8 then 0 else f j := by
  apply List.ext_getElem?
  intro j
  unfold layF
  rw [Int.toNat_natCast, splice_at _ _ _ _ (by rw [cellBytes_len]; simpa using hp), cellBytes_len, cell_small hv]
  by_cases hj : j < L
  · simp only [List.getElem?_map, List.getElem?_range hj, Option.map_some]
    by_cases h1 : p ≤ j ∧ j < p + 8
    · rw [if_pos h1]
      obtain ⟨d, rfl⟩ : ∃ d, j = p + d := ⟨j - p, by omega⟩
      have hd : d < 8 := by omega
      rw [show p + d - p = d by omega]
      match d, hd with
      | 0, _ => simp
      | 1, _ => simp
      | 2, _ => simp
      | 3, _ => simp
      | 4, _ => simp
      | 5, _ => simp
      | 6, _ => simp
      | 7, _ => simp
    · rw [if_neg h1, if_neg (by omega), if_neg (by omega), if_neg h1]
  · rw [if_neg (by omega)]
    simp [hj]
theorem map_same {L : Nat} {f g : Nat → UInt8} (h : ∀ j, j < L → f j = g j) : (List.range L).map f = (List.range L).map g := List.map_congr_left fun j hj => h j (List.mem_range.1 hj)
theorem head_zero : ∀ (L : Nat), 32 ≤ L → layF (layF (layF (List.replicate L 0) ((0 : Nat) : Int) (cellBytes ((10 : Nat) : Int))) ((16 : Nat) : Int) (cellBytes ((96 : Nat) : Int))) ((24 : Nat) : Int) (cellBytes ((104 : Nat) : Int)) = rowH L 0 := by
  intro L hL
  have e : List.replicate L (0 : UInt8) = (List.range L).map fun _ => 0 := by apply List.ext_getElem <;> simp
  rw [e, lay8 _ (by omega) (by omega), lay8 _ (by omega) (by omega), lay8 _ (by omega) (by omega)]
  unfold rowH
  refine map_same fun j hj => ?_
  unfold byteH
  by_cases h0 : j = 0
  · subst h0; rfl
  · by_cases h16 : j = 16
    · subst h16; rfl
    · by_cases h24 : j = 24
      · subst h24; rfl
      · rw [if_neg h24]
        by_cases h25 : j = 25
        · subst h25; rfl
        · by_cases h17 : j = 17
          · subst h17; rfl
          · by_cases h1 : j = 1
            · subst h1; rfl
            · simp [h0, h16, h24, h25, h17, h1]
              intro _ _
              omega
theorem head_step {L i : Nat} (hi : i < 167) (hL : 1368 ≤ L) : layF (rowH L i) ((32 + 8 * i : Nat) : Int) (cellBytes ((numN i : Nat) : Int)) = rowH L (i + 1) := by
  have hn := num_le hi
  unfold rowH
  rw [lay8 _ (by omega) (by omega)]
  refine map_same fun j hj => ?_
  unfold byteH
  by_cases h0 : j = 32 + 8 * i
  · subst h0
    rw [if_pos rfl, if_neg (by omega), if_neg (by omega), if_neg (by omega), if_pos (by omega), if_pos (by omega)]
    congr 2
    congr 1
    omega
  · rw [if_neg h0]
    by_cases h1 : j = 32 + 8 * i + 1
    · subst h1
      rw [if_pos rfl, if_neg (by omega), if_neg (by omega), if_neg (by omega), if_pos (by omega), if_neg (by omega), if_pos (by omega)]
      congr 2
      congr 1
      omega
    · rw [if_neg h1]
      by_cases h2 : 32 + 8 * i ≤ j ∧ j < 32 + 8 * i + 8
      · rw [if_pos h2, if_neg (by omega), if_neg (by omega), if_neg (by omega), if_pos (by omega), if_neg (by omega), if_neg (by omega)]
      · rw [if_neg h2]
        by_cases a : j = 0
        · rw [if_pos a, if_pos a]
        · rw [if_neg a, if_neg a]
          by_cases b : j = 16
          · rw [if_pos b, if_pos b]
          · rw [if_neg b, if_neg b]
            by_cases c : j = 24
            · rw [if_pos c, if_pos c]
            · rw [if_neg c, if_neg c]
              by_cases d : 32 ≤ j ∧ j < 32 + 8 * i
              · rw [if_pos d, if_pos (show 32 ≤ j ∧ j < 32 + 8 * (i + 1) by omega)]
              · rw [if_neg d, if_neg (by omega)]
theorem head_last (L : Nat) : rowH L 167 = rowN L 167 := by
  unfold rowH rowN
  refine map_same fun j hj => ?_
  unfold byteH byteN
  simp
/-- The head laid into a row of noughts. -/
theorem head_whole {L : Nat} (hL : 1368 ≤ L) : layF (List.replicate L 0) 0 (rowN 1368 167) = rowN L 167 := by
  apply List.ext_getElem?
  intro j
  unfold layF
  rw [show (0 : Int).toNat = 0 from rfl, splice_at _ _ _ _ (by rw [rowN_len]; simpa using hL), rowN_len]
  by_cases hj : j < 1368
  · rw [if_pos (by omega), Nat.sub_zero, rowN_at hj, rowN_at (by omega)]
  · rw [if_neg (by omega)]
    by_cases h2 : j < L
    · rw [rowN_at h2, List.getElem?_replicate, if_pos h2]
      unfold byteN
      rw [if_neg (by omega), if_neg (by omega), if_neg (by omega), if_neg (by omega)]
    · rw [rowN_out h2, List.getElem?_replicate, if_neg h2]
theorem store_put {m : PM} {q : Nat} (n : Int) (hL : m.1.length = 1368) (h8 : q % 8 = 0) (hq : q + 8 ≤ 1368) : (storeF m (q : Int) n).1 = layF m.1 (q : Int) (cellBytes n) ∧ (storeF m (q : Int) n).2.length = m.2.length + 1 := by
  have h1 : okB 1368 (q : Int) 8 = true := by unfold okB; rw [decide_eq_true_eq]; omega
  have h2 : cellC 1368 (q : Int) = 0 := by unfold cellC; rw [if_pos h1, if_pos (by omega)]
  have h3 : okB m.1.length (q : Int) ((cellBytes n).length : Nat) = true := by rw [hL, cellBytes_len]; exact h1
  unfold storeF
  rw [hL, if_pos h2]
  unfold writeF
  rw [if_pos ⟨h3, by intro e; have := congrArg List.length e; rw [cellBytes_len] at this; cases this⟩]
  exact ⟨rfl, by simp⟩
end Go.Proofs.YtbighilgkmfemaaGreatDoor
