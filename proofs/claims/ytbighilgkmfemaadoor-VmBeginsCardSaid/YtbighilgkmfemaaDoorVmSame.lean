/- Are two machines the same: the document's Same. -/
import Derived.Test.YtbighilgkmfemaaDoorVmHolds
import Derived.Test.YtbighilgkmfemaaDoorVmRows
import Derived.Test.YtbighilgkmfemaaDoorSetD
import Derived.Test.YtbighilgkmfemaaDoorSetC
import Derived.Test.YtbighilgkmfemaaDoorSetE
namespace Go.Proofs.YtbighilgkmfemaaDoor
open Go.RowKit
set_option linter.unusedVariables false
set_option linter.unusedSimpArgs false

def confSame (k j : VmK) : Bool := decide (k.cm = j.cm ∧ k.cd = j.cd ∧ k.cr = j.cr ∧ k.cw = j.cw ∧ k.co = j.co)
def numsSame (k j : VmK) : Bool := decide (k.here = j.here ∧ k.last = j.last ∧ k.free = j.free ∧ k.next = j.next ∧ k.arg = j.arg ∧ k.self = j.self ∧ k.now = j.now)
/-- Are two machines the same? -/
def vSame (k : VmK) (L : VmL) (j : VmK) (M : VmL) : Bool := decide (L.m = M.m) && (sameB L.d M.d && (sameB L.r M.r && (fmSame L.f M.f && (dSame L.dict M.dict && (pSame k.qo L.q j.qo M.q && (rqSame L.e M.e && (hnSame L.h M.h && (confSame k j && (decide (L.o = M.o) && (numsSame k j))))))))))
/-- Two machines in two new blocks. -/
def V2 (w : World) (b : Nat) (k j : VmK) : Prop := VBox w b k ∧ VBox w (b + 1) j
theorem v2_new (w : World) (k j : VmK) : Below w.heap.size w ((w.alloc (.cells #[.int .i64 k.cm, .int .i64 k.cd, .int .i64 k.cr, .int .i64 k.cw, .int .i64 k.co, .slice k.mA k.mn k.mc, .slice k.pA k.pn k.pc, .int .i64 k.here, .slice k.dA k.dn k.dc, .slice k.rA k.rn k.rc, .slice k.fA k.fn k.fc, .slice k.wA k.wn k.wc, .int .i64 k.last, .slice k.oA k.on k.oc, .slice k.qA k.qn k.qc, .bool k.qo, .slice k.eA k.en k.ec, .int .i64 k.free, .int .i64 k.next, .int .i64 k.arg, .int .i64 k.self, .int .i64 k.now, .slice k.hA k.hn k.hc] 37)).alloc (.cells #[.int .i64 j.cm, .int .i64 j.cd, .int .i64 j.cr, .int .i64 j.cw, .int .i64 j.co, .slice j.mA j.mn j.mc, .slice j.pA j.pn j.pc, .int .i64 j.here, .slice j.dA j.dn j.dc, .slice j.rA j.rn j.rc, .slice j.fA j.fn j.fc, .slice j.wA j.wn j.wc, .int .i64 j.last, .slice j.oA j.on j.oc, .slice j.qA j.qn j.qc, .bool j.qo, .slice j.eA j.en j.ec, .int .i64 j.free, .int .i64 j.next, .int .i64 j.arg, .int .i64 j.self, .int .i64 j.now, .slice j.hA j.hn j.hc] 37)) ∧ VBox ((w.alloc (.cells #[.int .i64 k.cm, .int .i64 k.cd, .int .i64 k.cr, .int .i64 k.cw, .int .i64 k.co, .slice k.mA k.mn k.mc, .slice k.pA k.pn k.pc, .int .i64 k.here, .slice k.dA k.dn k.dc, .slice k.rA k.rn k.rc, .slice k.fA k.fn k.fc, .slice k.wA k.wn k.wc, .int .i64 k.last, .slice k.oA k.on k.oc, .slice k.qA k.qn k.qc, .bool k.qo, .slice k.eA k.en k.ec, .int .i64 k.free, .int .i64 k.next, .int .i64 k.arg, .int .i64 k.self, .int .i64 k.now, .slice k.hA k.hn k.hc] 37)).alloc (.cells #[.int .i64 j.cm, .int .i64 j.cd, .int .i64 j.cr, .int .i64 j.cw, .int .i64 j.co, .slice j.mA j.mn j.mc, .slice j.pA j.pn j.pc, .int .i64 j.here, .slice j.dA j.dn j.dc, .slice j.rA j.rn j.rc, .slice j.fA j.fn j.fc, .slice j.wA j.wn j.wc, .int .i64 j.last, .slice j.oA j.on j.oc, .slice j.qA j.qn j.qc, .bool j.qo, .slice j.eA j.en j.ec, .int .i64 j.free, .int .i64 j.next, .int .i64 j.arg, .int .i64 j.self, .int .i64 j.now, .slice j.hA j.hn j.hc] 37)) w.heap.size k ∧ VBox ((w.alloc (.cells #[.int .i64 k.cm, .int .i64 k.cd, .int .i64 k.cr, .int .i64 k.cw, .int .i64 k.co, .slice k.mA k.mn k.mc, .slice k.pA k.pn k.pc, .int .i64 k.here, .slice k.dA k.dn k.dc, .slice k.rA k.rn k.rc, .slice k.fA k.fn k.fc, .slice k.wA k.wn k.wc, .int .i64 k.last, .slice k.oA k.on k.oc, .slice k.qA k.qn k.qc, .bool k.qo, .slice k.eA k.en k.ec, .int .i64 k.free, .int .i64 k.next, .int .i64 k.arg, .int .i64 k.self, .int .i64 k.now, .slice k.hA k.hn k.hc] 37)).alloc (.cells #[.int .i64 j.cm, .int .i64 j.cd, .int .i64 j.cr, .int .i64 j.cw, .int .i64 j.co, .slice j.mA j.mn j.mc, .slice j.pA j.pn j.pc, .int .i64 j.here, .slice j.dA j.dn j.dc, .slice j.rA j.rn j.rc, .slice j.fA j.fn j.fc, .slice j.wA j.wn j.wc, .int .i64 j.last, .slice j.oA j.on j.oc, .slice j.qA j.qn j.qc, .bool j.qo, .slice j.eA j.en j.ec, .int .i64 j.free, .int .i64 j.next, .int .i64 j.arg, .int .i64 j.self, .int .i64 j.now, .slice j.hA j.hn j.hc] 37)) (w.heap.size + 1) j := by
  refine ⟨((Below.refl _ _).alloc (Nat.le_refl _) _).alloc (by simp) _, ?_, ?_⟩
  · exact (vbox_new w k).keep ((Below.refl _ _).alloc (Nat.le_refl _) _)
  · have := vbox_new (w.alloc (.cells #[.int .i64 k.cm, .int .i64 k.cd, .int .i64 k.cr, .int .i64 k.cw, .int .i64 k.co, .slice k.mA k.mn k.mc, .slice k.pA k.pn k.pc, .int .i64 k.here, .slice k.dA k.dn k.dc, .slice k.rA k.rn k.rc, .slice k.fA k.fn k.fc, .slice k.wA k.wn k.wc, .int .i64 k.last, .slice k.oA k.on k.oc, .slice k.qA k.qn k.qc, .bool k.qo, .slice k.eA k.en k.ec, .int .i64 k.free, .int .i64 k.next, .int .i64 k.arg, .int .i64 k.self, .int .i64 k.now, .slice k.hA k.hn k.hc] 37)) j
    rw [World.size_alloc] at this
    exact this
end Go.Proofs.YtbighilgkmfemaaDoor
