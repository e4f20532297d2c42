/- What the program's calls leave that answer a machine; New. -/
import Derived.Test.YtbighilgkmfemaaDoorVmFacts
import Derived.Test.YtbighilgkmfemaaDoorVmCodeA
import Derived.Test.YtbighilgkmfemaaDoorVmCodeC
import Derived.Test.YtbighilgkmfemaaDoorVmCodeE
import Derived.Test.YtbighilgkmfemaaDoorVmCodeG
namespace Go.Proofs.YtbighilgkmfemaaDoor
open Go.RowKit
set_option linter.unusedVariables false
set_option linter.unusedSimpArgs false

theorem vpush_use (k : VmK) (L : VmL) (x : Int) (w : World) (hn : k.dn ≤ 65536) (h : IsVm w k L) :
    Calls Tryd.prog 15 #[vmV k, .int .i64 x] w (POut k (pushV k L x) (pushC L.d k.cd) w) := by
  refine (vpush_any k L.d x w hn (Lib.hid h.d)).mono ?_
  rintro e w1 ⟨B, m, d, rfl, hr, b⟩
  have g := h.keep b
  exact ⟨_, rfl, ⟨g.m, hr, g.r, g.f, g.dict, g.o, g.q, g.e, g.h⟩, ⟨rfl, rfl, rfl, rfl, rfl, rfl, rfl, rfl, rfl, rfl, rfl, rfl, rfl⟩, b⟩
theorem vpop_use (k : VmK) (L : VmL) (w : World) (hn : k.dn ≤ 65536) (h : IsVm w k L) :
    Calls Tryd.prog 16 #[vmV k] w (QOut (popX L.d) k (popV L) (popC L.d) w) := by
  refine (vpop_any k L.d w hn (Lib.hid h.d)).mono ?_
  rintro e w1 ⟨B, m, d, rfl, hr, b⟩
  have g := h.keep b
  exact ⟨_, rfl, ⟨g.m, hr, g.r, g.f, g.dict, g.o, g.q, g.e, g.h⟩, ⟨rfl, rfl, rfl, rfl, rfl, rfl, rfl, rfl, rfl, rfl, rfl, rfl, rfl⟩, b⟩
theorem vrpop_use (k : VmK) (L : VmL) (w : World) (hn : k.rn ≤ 65536) (h : IsVm w k L) :
    Calls Tryd.prog 17 #[vmV k] w (QOut (popX L.r) k (rpopV L) (rpopC L.r) w) := by
  refine (vrpop_any k L.r w hn (Lib.hid h.r)).mono ?_
  rintro e w1 ⟨B, m, d, rfl, hr, b⟩
  have g := h.keep b
  exact ⟨_, rfl, ⟨g.m, g.d, hr, g.f, g.dict, g.o, g.q, g.e, g.h⟩, ⟨rfl, rfl, rfl, rfl, rfl, rfl, rfl, rfl, rfl, rfl, rfl, rfl, rfl⟩, b⟩
theorem vprint_use (k : VmK) (L : VmL) (s : List UInt8) (w : World) (hn : k.on ≤ 65536) (h0 : 0 ≤ k.co) (h6 : k.co ≤ 65536) (hs : s.length ≤ 100000) (h : IsVm w k L) :
    Calls Tryd.prog 18 #[vmV k, .string (strB s)] w (POut k (printV k L s) (printC L.o s k.co) w) := by
  refine (vprint_any k L.o s w hn h0 h6 hs (Lib.hid h.o)).mono ?_
  rintro e w1 ⟨B, m, d, rfl, hr, b⟩
  have g := h.keep b
  exact ⟨_, rfl, ⟨g.m, g.d, g.r, g.f, g.dict, hr, g.q, g.e, g.h⟩, ⟨rfl, rfl, rfl, rfl, rfl, rfl, rfl, rfl, rfl, rfl, rfl, rfl, rfl⟩, b⟩
/-- What New leaves. -/
def NewUse (m d r v o : Int) (w : World) (e : Ending) (w' : World) : Prop :=
  ∃ k C, e = .returned (.tuple #[vmV k, .int .i64 C]) ∧ (fitsB m d r v o = true → C = 0 ∧ ∃ L : Nat, m = (L : Int) ∧ IsVm w' k (newL L) ∧ Sc k (confK m d r v o)) ∧ (fitsB m d r v o = false → C = -24 ∧ k = vm0) ∧ Below w.heap.size w w'
theorem vnew_use (m d r v o : Int) (w : World) (HT : Tab w) : Calls Tryd.prog 5 #[.agg #[.int .i64 m, .int .i64 d, .int .i64 r, .int .i64 v, .int .i64 o]] w (NewUse m d r v o w) := by
  refine (new_any2 m d r v o w HT).mono ?_
  rintro e w1 ⟨h1, h2, b⟩
  cases hf : fitsB m d r v o with
  | true =>
    obtain ⟨L, A1, c1, A2, c2, rfl, rfl, hv⟩ := h1 hf
    exact ⟨_, _, rfl, fun _ => ⟨rfl, L, rfl, hv, sc_new _ _ _ _ _ _ _ _ _⟩, fun e => absurd (hf.symm.trans e) (by decide), b⟩
  | false =>
    exact ⟨vm0, -24, h2 hf, fun e => absurd (hf.symm.trans e) (by decide), fun _ => ⟨rfl, rfl⟩, b⟩
theorem kind_new {w : World} {k : VmK} {L i : Nat} {p : Int} (h : IsVm w k (newL L)) (hL : 1368 ≤ L) (h6 : L ≤ 65536) (hi : i < 167) (hp : p = ((32 + 8 * i : Nat) : Int)) :
    Calls Tryd.prog 10 #[vmV k, .int .i64 p] w fun e w' => e = .returned (.tuple #[.int .i64 ((numN i : Nat) : Int), .int .i64 0]) ∧ Below w.heap.size w w' := by
  subst hp
  have hm : k.mn = L := by have := h.m.len1; rw [← this]; exact rowN_len L 167
  have hc := vkind_any k (newL L).m ((32 + 8 * i : Nat) : Int) w (Lib.hid h.m) (by omega)
  obtain ⟨e1, e2⟩ := kind_num hL hi
  rw [hm] at hc
  rw [show (newL L).m = (rowN L 167, []) from rfl, e1, e2] at hc
  exact hc
theorem wpList_vstore {ops : Array Oper} {rest : List Oper} {o : Oper} {a : Act} {Q : Exit → Act → World → Prop} {w : World} (hw : Region.wanted o (yielded ops a.tmps) = true) (x y : Operand) (ho : o.op = .store 37 x y)
    (b : Nat) (j k : VmK) (hx : a.eval x = .pointer (some ⟨b, 0, none⟩)) (hy : a.eval y = vmV k) (hb : VBox w b j) (h : wpList Tryd.prog ops Q rest (a.put o.dst undef) (w.setRow b (vmC k))) : wpList Tryd.prog ops Q (o :: rest) a w :=
  wpList_step fun K hK => by
    rw [if_pos hw]
    exact wp_store_row 37 x y ho b (vmC k) hx hy _ _ hb vm_info rfl (vm_one k) (hK _ _ h)
end Go.Proofs.YtbighilgkmfemaaDoor
