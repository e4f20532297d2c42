/- What a call that answers a machine leaves, told of what the machine holds: the document's own. -/
import Derived.Test.YtbighilgkmfemaaDoorVmNew
import Derived.Test.YtbighilgkmfemaaDoorVmMay
import Derived.Test.YtbighilgkmfemaaDoorVmSame
import Derived.Test.YtbighilgkmfemaaDoorVmKind
import Derived.Test.YtbighilgkmfemaaDoorVmBase
import Derived.Test.YtbighilgkmfemaaDoorVmRefB
import Derived.Test.YtbighilgkmfemaaDoorVmRefC
namespace Go.Proofs.YtbighilgkmfemaaDoor
open Go.RowKit
set_option linter.unusedVariables false
set_option linter.unusedSimpArgs false

/-- Two machines have the same numbers. -/
structure Sc (k j : VmK) : Prop where
  cm : k.cm = j.cm
  cd : k.cd = j.cd
  cr : k.cr = j.cr
  cw : k.cw = j.cw
  co : k.co = j.co
  here : k.here = j.here
  last : k.last = j.last
  qo : k.qo = j.qo
  free : k.free = j.free
  next : k.next = j.next
  arg : k.arg = j.arg
  self : k.self = j.self
  now : k.now = j.now
theorem Sc.refl (k : VmK) : Sc k k := ⟨rfl, rfl, rfl, rfl, rfl, rfl, rfl, rfl, rfl, rfl, rfl, rfl, rfl⟩
theorem Sc.symm {k j : VmK} (h : Sc k j) : Sc j k := ⟨h.cm.symm, h.cd.symm, h.cr.symm, h.cw.symm, h.co.symm, h.here.symm, h.last.symm, h.qo.symm, h.free.symm, h.next.symm, h.arg.symm, h.self.symm, h.now.symm⟩
theorem Sc.trans {k j i : VmK} (h : Sc k j) (g : Sc j i) : Sc k i := ⟨h.cm.trans g.cm, h.cd.trans g.cd, h.cr.trans g.cr, h.cw.trans g.cw, h.co.trans g.co, h.here.trans g.here, h.last.trans g.last, h.qo.trans g.qo, h.free.trans g.free, h.next.trans g.next, h.arg.trans g.arg, h.self.trans g.self, h.now.trans g.now⟩
/-- Two machines that hold the same are the same. -/
theorem same_self {k j : VmK} (h : Sc k j) (L : VmL) : vSame k L j L = true := by
  have h1 : confSame k j = true := by unfold confSame; rw [decide_eq_true_eq]; exact ⟨h.cm, h.cd, h.cr, h.cw, h.co⟩
  have h2 : numsSame k j = true := by unfold numsSame; rw [decide_eq_true_eq]; exact ⟨h.here, h.last, h.free, h.next, h.arg, h.self, h.now⟩
  unfold vSame
  rw [h1, h2, fm_self, rq_self, hn_self, h.qo]
  simp [sameB, dSame, pSame]
/-- What a call leaves that answers a machine and a code; and one that answers a number ahead of them. -/
def POut (k : VmK) (L : VmL) (C : Int) (w : World) (e : Ending) (w' : World) : Prop := ∃ j, e = .returned (.tuple #[vmV j, .int .i64 C]) ∧ IsVm w' j L ∧ Sc j k ∧ Below w.heap.size w w'
def QOut (n : Int) (k : VmK) (L : VmL) (C : Int) (w : World) (e : Ending) (w' : World) : Prop := ∃ j, e = .returned (.tuple #[.int .i64 n, vmV j, .int .i64 C]) ∧ IsVm w' j L ∧ Sc j k ∧ Below w.heap.size w w'
def pushV (k : VmK) (L : VmL) (x : Int) : VmL := { L with d := pushL L.d x k.cd }
def popV (L : VmL) : VmL := { L with d := popL L.d }
def rpopV (L : VmL) : VmL := { L with r := popL L.r }
def printV (k : VmK) (L : VmL) (s : List UInt8) : VmL := { L with o := printL L.o s k.co }
end Go.Proofs.YtbighilgkmfemaaDoor
