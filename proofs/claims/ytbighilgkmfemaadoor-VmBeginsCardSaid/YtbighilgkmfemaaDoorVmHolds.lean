/- What a machine holds; is it not too much: the document's Few. -/
import Derived.Test.YtbighilgkmfemaaDoorVmFits
import Derived.Test.YtbighilgkmfemaaDoorVmRows
namespace Go.Proofs.YtbighilgkmfemaaDoor
open Go.RowKit
set_option linter.unusedVariables false
set_option linter.unusedSimpArgs false

/-- A machine's rows. -/
structure VmL where
  m : PM
  d : List Int
  r : List Int
  f : List Fm
  dict : List Wr
  o : List UInt8
  q : List UInt8
  e : List Rq
  h : List Hn
/-- The machine with these letters holds these rows. -/
structure IsVm (w : World) (k : VmK) (L : VmL) : Prop where
  m : IsMem w (.agg #[.slice k.mA k.mn k.mc, .slice k.pA k.pn k.pc]) L.m
  d : Row w k.dA k.dn k.dc L.d
  r : Row w k.rA k.rn k.rc L.r
  f : Fms w (.slice k.fA k.fn k.fc) L.f
  dict : Wds w (.slice k.wA k.wn k.wc) L.dict
  o : Byt w (.slice k.oA k.on k.oc) L.o
  q : Byt w (.slice k.qA k.qn k.qc) L.q
  e : Rqs w (.slice k.eA k.en k.ec) L.e
  h : Hns w (.slice k.hA k.hn k.hc) L.h
theorem IsVm.keep {w w' : World} {k : VmK} {L : VmL} (x : IsVm w k L) (b : Below w.heap.size w w') : IsVm w' k L :=
  ⟨x.m.keep b, x.d.keep b, x.r.keep b, x.f.keep b, x.dict.keep b, x.o.keep b, x.q.keep b, x.e.keep b, x.h.keep b⟩
end Go.Proofs.YtbighilgkmfemaaDoor
