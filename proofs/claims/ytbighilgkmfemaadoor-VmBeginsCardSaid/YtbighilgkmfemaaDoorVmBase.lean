/- A machine as a value, and in a block of 23 cells. -/
import Derived.Test.YtbighilgkmfemaaDoorSetD
import Derived.Test.YtbighilgkmfemaaDoorSetE
import Derived.Test.YtbighilgkmfemaaDoorSetC
import Derived.Test.YtbighilgkmfemaaDoorSetB
import Derived.Laws.Tables
import Derived.Laws.CopyOwn
namespace Go.Proofs.YtbighilgkmfemaaDoor
open Go.RowKit
set_option linter.unusedVariables false
set_option linter.unusedSimpArgs false

/-- A machine's letters: its numbers, and where its rows lie. -/
structure VmK where
  cm : Int
  cd : Int
  cr : Int
  cw : Int
  co : Int
  mA : Option Addr
  mn : Nat
  mc : Nat
  pA : Option Addr
  pn : Nat
  pc : Nat
  here : Int
  dA : Option Addr
  dn : Nat
  dc : Nat
  rA : Option Addr
  rn : Nat
  rc : Nat
  fA : Option Addr
  fn : Nat
  fc : Nat
  wA : Option Addr
  wn : Nat
  wc : Nat
  last : Int
  oA : Option Addr
  on : Nat
  oc : Nat
  qA : Option Addr
  qn : Nat
  qc : Nat
  qo : Bool
  eA : Option Addr
  en : Nat
  ec : Nat
  free : Int
  next : Int
  arg : Int
  self : Int
  now : Int
  hA : Option Addr
  hn : Nat
  hc : Nat
abbrev vmV (k : VmK) : Value := .agg #[.int .i64 k.cm, .int .i64 k.cd, .int .i64 k.cr, .int .i64 k.cw, .int .i64 k.co, .slice k.mA k.mn k.mc, .slice k.pA k.pn k.pc, .int .i64 k.here, .slice k.dA k.dn k.dc, .slice k.rA k.rn k.rc, .slice k.fA k.fn k.fc, .slice k.wA k.wn k.wc, .int .i64 k.last, .slice k.oA k.on k.oc, .slice k.qA k.qn k.qc, .bool k.qo, .slice k.eA k.en k.ec, .int .i64 k.free, .int .i64 k.next, .int .i64 k.arg, .int .i64 k.self, .int .i64 k.now, .slice k.hA k.hn k.hc]
def vm0 : VmK := { cm := 0, cd := 0, cr := 0, cw := 0, co := 0, mA := none, mn := 0, mc := 0, pA := none, pn := 0, pc := 0, here := 0, dA := none, dn := 0, dc := 0, rA := none, rn := 0, rc := 0, fA := none, fn := 0, fc := 0, wA := none, wn := 0, wc := 0, last := 0, oA := none, on := 0, oc := 0, qA := none, qn := 0, qc := 0, qo := false, eA := none, en := 0, ec := 0, free := 0, next := 0, arg := 0, self := 0, now := 0, hA := none, hn := 0, hc := 0 }
/-- A machine in a block of its own. -/
def VBox (w : World) (b : Nat) (k : VmK) : Prop := w.heap[b]? = some (.cells #[.int .i64 k.cm, .int .i64 k.cd, .int .i64 k.cr, .int .i64 k.cw, .int .i64 k.co, .slice k.mA k.mn k.mc, .slice k.pA k.pn k.pc, .int .i64 k.here, .slice k.dA k.dn k.dc, .slice k.rA k.rn k.rc, .slice k.fA k.fn k.fc, .slice k.wA k.wn k.wc, .int .i64 k.last, .slice k.oA k.on k.oc, .slice k.qA k.qn k.qc, .bool k.qo, .slice k.eA k.en k.ec, .int .i64 k.free, .int .i64 k.next, .int .i64 k.arg, .int .i64 k.self, .int .i64 k.now, .slice k.hA k.hn k.hc] 37 (0, 0))
theorem VBox.lt {w : World} {b : Nat} {k : VmK} (h : VBox w b k) : b < w.heap.size := (Array.getElem?_eq_some_iff.1 h).1
theorem VBox.keep {w w' : World} {b : Nat} {k : VmK} (h : VBox w b k) (x : Below w.heap.size w w') : VBox w' b k := (x.block b h.lt).trans h
set_option maxRecDepth 100000 in
theorem VBox.use {w : World} {b : Nat} {k : VmK} (h : VBox w b k) : w.cell? ⟨b, 0, none⟩ = some (.int .i64 k.cm) ∧ w.cell? ⟨b, 1, none⟩ = some (.int .i64 k.cd) ∧ w.cell? ⟨b, 2, none⟩ = some (.int .i64 k.cr) ∧ w.cell? ⟨b, 3, none⟩ = some (.int .i64 k.cw) ∧ w.cell? ⟨b, 4, none⟩ = some (.int .i64 k.co) ∧ w.cell? ⟨b, 5, none⟩ = some (.slice k.mA k.mn k.mc) ∧ w.cell? ⟨b, 6, none⟩ = some (.slice k.pA k.pn k.pc) ∧ w.cell? ⟨b, 7, none⟩ = some (.int .i64 k.here) ∧ w.cell? ⟨b, 8, none⟩ = some (.slice k.dA k.dn k.dc) ∧ w.cell? ⟨b, 9, none⟩ = some (.slice k.rA k.rn k.rc) ∧ w.cell? ⟨b, 10, none⟩ = some (.slice k.fA k.fn k.fc) ∧ w.cell? ⟨b, 11, none⟩ = some (.slice k.wA k.wn k.wc) ∧ w.cell? ⟨b, 12, none⟩ = some (.int .i64 k.last) ∧ w.cell? ⟨b, 13, none⟩ = some (.slice k.oA k.on k.oc) ∧ w.cell? ⟨b, 14, none⟩ = some (.slice k.qA k.qn k.qc) ∧ w.cell? ⟨b, 15, none⟩ = some (.bool k.qo) ∧ w.cell? ⟨b, 16, none⟩ = some (.slice k.eA k.en k.ec) ∧ w.cell? ⟨b, 17, none⟩ = some (.int .i64 k.free) ∧ w.cell? ⟨b, 18, none⟩ = some (.int .i64 k.next) ∧ w.cell? ⟨b, 19, none⟩ = some (.int .i64 k.arg) ∧ w.cell? ⟨b, 20, none⟩ = some (.int .i64 k.self) ∧ w.cell? ⟨b, 21, none⟩ = some (.int .i64 k.now) ∧ w.cell? ⟨b, 22, none⟩ = some (.slice k.hA k.hn k.hc) := by
  unfold VBox at h
  refine ⟨?_, ?_, ?_, ?_, ?_, ?_, ?_, ?_, ?_, ?_, ?_, ?_, ?_, ?_, ?_, ?_, ?_, ?_, ?_, ?_, ?_, ?_, ?_⟩ <;> simp [World.cell?, h]
set_option maxRecDepth 100000 in
theorem VBox.free {w : World} {b : Nat} {k : VmK} (h : VBox w b k) : w.frozen? ⟨b, 0, none⟩ = false ∧ w.frozen? ⟨b, 1, none⟩ = false ∧ w.frozen? ⟨b, 2, none⟩ = false ∧ w.frozen? ⟨b, 3, none⟩ = false ∧ w.frozen? ⟨b, 4, none⟩ = false ∧ w.frozen? ⟨b, 5, none⟩ = false ∧ w.frozen? ⟨b, 6, none⟩ = false ∧ w.frozen? ⟨b, 7, none⟩ = false ∧ w.frozen? ⟨b, 8, none⟩ = false ∧ w.frozen? ⟨b, 9, none⟩ = false ∧ w.frozen? ⟨b, 10, none⟩ = false ∧ w.frozen? ⟨b, 11, none⟩ = false ∧ w.frozen? ⟨b, 12, none⟩ = false ∧ w.frozen? ⟨b, 13, none⟩ = false ∧ w.frozen? ⟨b, 14, none⟩ = false ∧ w.frozen? ⟨b, 15, none⟩ = false ∧ w.frozen? ⟨b, 16, none⟩ = false ∧ w.frozen? ⟨b, 17, none⟩ = false ∧ w.frozen? ⟨b, 18, none⟩ = false ∧ w.frozen? ⟨b, 19, none⟩ = false ∧ w.frozen? ⟨b, 20, none⟩ = false ∧ w.frozen? ⟨b, 21, none⟩ = false ∧ w.frozen? ⟨b, 22, none⟩ = false := by
  unfold VBox at h
  refine ⟨?_, ?_, ?_, ?_, ?_, ?_, ?_, ?_, ?_, ?_, ?_, ?_, ?_, ?_, ?_, ?_, ?_, ?_, ?_, ?_, ?_, ?_, ?_⟩ <;> simp [World.frozen?, h]
theorem vbox_new (w : World) (k : VmK) : VBox (w.alloc (.cells #[.int .i64 k.cm, .int .i64 k.cd, .int .i64 k.cr, .int .i64 k.cw, .int .i64 k.co, .slice k.mA k.mn k.mc, .slice k.pA k.pn k.pc, .int .i64 k.here, .slice k.dA k.dn k.dc, .slice k.rA k.rn k.rc, .slice k.fA k.fn k.fc, .slice k.wA k.wn k.wc, .int .i64 k.last, .slice k.oA k.on k.oc, .slice k.qA k.qn k.qc, .bool k.qo, .slice k.eA k.en k.ec, .int .i64 k.free, .int .i64 k.next, .int .i64 k.arg, .int .i64 k.self, .int .i64 k.now, .slice k.hA k.hn k.hc] 37)) w.heap.size k := one_newN w _ _
theorem vbox_zero (w : World) : VBox (w.alloc (.cells #[.int .i64 0, .int .i64 0, .int .i64 0, .int .i64 0, .int .i64 0, .slice none 0 0, .slice none 0 0, .int .i64 0, .slice none 0 0, .slice none 0 0, .slice none 0 0, .slice none 0 0, .int .i64 0, .slice none 0 0, .slice none 0 0, .bool false, .slice none 0 0, .int .i64 0, .int .i64 0, .int .i64 0, .int .i64 0, .int .i64 0, .slice none 0 0] 37)) w.heap.size vm0 := one_newN w _ _
set_option maxRecDepth 100000 in
theorem VBox.put {w : World} {b : Nat} {j : VmK} (h : VBox w b j) (k : VmK) : VBox (((((((((((((((((((((((w.setCell ⟨b, 0, none⟩ (.int .i64 k.cm)).setCell ⟨b, 1, none⟩ (.int .i64 k.cd)).setCell ⟨b, 2, none⟩ (.int .i64 k.cr)).setCell ⟨b, 3, none⟩ (.int .i64 k.cw)).setCell ⟨b, 4, none⟩ (.int .i64 k.co)).setCell ⟨b, 5, none⟩ (.slice k.mA k.mn k.mc)).setCell ⟨b, 6, none⟩ (.slice k.pA k.pn k.pc)).setCell ⟨b, 7, none⟩ (.int .i64 k.here)).setCell ⟨b, 8, none⟩ (.slice k.dA k.dn k.dc)).setCell ⟨b, 9, none⟩ (.slice k.rA k.rn k.rc)).setCell ⟨b, 10, none⟩ (.slice k.fA k.fn k.fc)).setCell ⟨b, 11, none⟩ (.slice k.wA k.wn k.wc)).setCell ⟨b, 12, none⟩ (.int .i64 k.last)).setCell ⟨b, 13, none⟩ (.slice k.oA k.on k.oc)).setCell ⟨b, 14, none⟩ (.slice k.qA k.qn k.qc)).setCell ⟨b, 15, none⟩ (.bool k.qo)).setCell ⟨b, 16, none⟩ (.slice k.eA k.en k.ec)).setCell ⟨b, 17, none⟩ (.int .i64 k.free)).setCell ⟨b, 18, none⟩ (.int .i64 k.next)).setCell ⟨b, 19, none⟩ (.int .i64 k.arg)).setCell ⟨b, 20, none⟩ (.int .i64 k.self)).setCell ⟨b, 21, none⟩ (.int .i64 k.now)).setCell ⟨b, 22, none⟩ (.slice k.hA k.hn k.hc)) b k := by
  have h0 := Go.Joins.block_setCell (i := 0) h (.int .i64 k.cm)
  have h1 := Go.Joins.block_setCell (i := 1) h0 (.int .i64 k.cd)
  have h2 := Go.Joins.block_setCell (i := 2) h1 (.int .i64 k.cr)
  have h3 := Go.Joins.block_setCell (i := 3) h2 (.int .i64 k.cw)
  have h4 := Go.Joins.block_setCell (i := 4) h3 (.int .i64 k.co)
  have h5 := Go.Joins.block_setCell (i := 5) h4 (.slice k.mA k.mn k.mc)
  have h6 := Go.Joins.block_setCell (i := 6) h5 (.slice k.pA k.pn k.pc)
  have h7 := Go.Joins.block_setCell (i := 7) h6 (.int .i64 k.here)
  have h8 := Go.Joins.block_setCell (i := 8) h7 (.slice k.dA k.dn k.dc)
  have h9 := Go.Joins.block_setCell (i := 9) h8 (.slice k.rA k.rn k.rc)
  have h10 := Go.Joins.block_setCell (i := 10) h9 (.slice k.fA k.fn k.fc)
  have h11 := Go.Joins.block_setCell (i := 11) h10 (.slice k.wA k.wn k.wc)
  have h12 := Go.Joins.block_setCell (i := 12) h11 (.int .i64 k.last)
  have h13 := Go.Joins.block_setCell (i := 13) h12 (.slice k.oA k.on k.oc)
  have h14 := Go.Joins.block_setCell (i := 14) h13 (.slice k.qA k.qn k.qc)
  have h15 := Go.Joins.block_setCell (i := 15) h14 (.bool k.qo)
  have h16 := Go.Joins.block_setCell (i := 16) h15 (.slice k.eA k.en k.ec)
  have h17 := Go.Joins.block_setCell (i := 17) h16 (.int .i64 k.free)
  have h18 := Go.Joins.block_setCell (i := 18) h17 (.int .i64 k.next)
  have h19 := Go.Joins.block_setCell (i := 19) h18 (.int .i64 k.arg)
  have h20 := Go.Joins.block_setCell (i := 20) h19 (.int .i64 k.self)
  have h21 := Go.Joins.block_setCell (i := 21) h20 (.int .i64 k.now)
  have h22 := Go.Joins.block_setCell (i := 22) h21 (.slice k.hA k.hn k.hc)
  simpa [VBox] using h22
theorem vm_info : (Tryd.prog.info? 37).map (·.size) = some 23 := by kernel_rfl
abbrev vmC (k : VmK) : Array Value := #[.int .i64 k.cm, .int .i64 k.cd, .int .i64 k.cr, .int .i64 k.cw, .int .i64 k.co, .slice k.mA k.mn k.mc, .slice k.pA k.pn k.pc, .int .i64 k.here, .slice k.dA k.dn k.dc, .slice k.rA k.rn k.rc, .slice k.fA k.fn k.fc, .slice k.wA k.wn k.wc, .int .i64 k.last, .slice k.oA k.on k.oc, .slice k.qA k.qn k.qc, .bool k.qo, .slice k.eA k.en k.ec, .int .i64 k.free, .int .i64 k.next, .int .i64 k.arg, .int .i64 k.self, .int .i64 k.now, .slice k.hA k.hn k.hc]
set_option maxRecDepth 100000 in
theorem vm_one (k : VmK) : (vmC k).all (·.oneCell') = true := by simp [Value.oneCell']
/-- The whole of it written anew. -/
theorem vrow {w : World} {b : Nat} {j : VmK} (h : VBox w b j) (k : VmK) : VBox (w.setRow b (vmC k)) b k := setRow_heap w b _ _ _ _ h
theorem vrow_far {w : World} {b b' : Nat} {k : VmK} (h : VBox w b k) (hne : b ≠ b') (cs : Array Value) : VBox (w.setRow b' cs) b k := by
  unfold VBox at h ⊢
  rw [setRow_other w b' b cs (by omega)]
  exact h
theorem VBox.set_d {w : World} {b : Nat} {k : VmK} (h : VBox w b k) (B : Option Addr) (m d : Nat) : VBox (w.setCell ⟨b, 8, none⟩ (.slice B m d)) b { k with dA := B, dn := m, dc := d } := by
  have h1 := Go.Joins.block_setCell (i := 8) h (.slice B m d)
  simpa [VBox] using h1
theorem VBox.set_r {w : World} {b : Nat} {k : VmK} (h : VBox w b k) (B : Option Addr) (m d : Nat) : VBox (w.setCell ⟨b, 9, none⟩ (.slice B m d)) b { k with rA := B, rn := m, rc := d } := by
  have h1 := Go.Joins.block_setCell (i := 9) h (.slice B m d)
  simpa [VBox] using h1
theorem VBox.set_o {w : World} {b : Nat} {k : VmK} (h : VBox w b k) (B : Option Addr) (m d : Nat) : VBox (w.setCell ⟨b, 13, none⟩ (.slice B m d)) b { k with oA := B, on := m, oc := d } := by
  have h1 := Go.Joins.block_setCell (i := 13) h (.slice B m d)
  simpa [VBox] using h1
theorem vm_load {w : World} {b : Nat} {k : VmK} (h : VBox w b k) : (loadVar 37 ⟨b, 0, none⟩).run Tryd.prog w = .ok (vmV k) w := run_loadVar_row w b _ _ _ _ _ h Tryd.underlying37 rfl vm_info
theorem res_ct {fn : Func} {p t : Tmp} (h : fn.results = #[.cell p 37, .tmp t]) (tmps : Array Value) (w : World) (b : Nat) (k : VmK) (hp : tmps.getD p undef = .pointer (some ⟨b, 0, none⟩)) (hb : VBox w b k) :
    (results fn tmps).run Tryd.prog w = .ok (.tuple #[vmV k, tmps.getD t undef]) w := by
  have hp' : tmps[p]?.getD undef = .pointer (some ⟨b, 0, none⟩) := by simpa using hp
  simp [results, h, hp', asAddr, vm_load hb]
theorem res_tct {fn : Func} {p t u : Tmp} (h : fn.results = #[.tmp u, .cell p 37, .tmp t]) (tmps : Array Value) (w : World) (b : Nat) (k : VmK) (hp : tmps.getD p undef = .pointer (some ⟨b, 0, none⟩)) (hb : VBox w b k) :
    (results fn tmps).run Tryd.prog w = .ok (.tuple #[tmps.getD u undef, vmV k, tmps.getD t undef]) w := by
  have hp' : tmps[p]?.getD undef = .pointer (some ⟨b, 0, none⟩) := by simpa using hp
  simp [results, h, hp', asAddr, vm_load hb]
/-- A whole machine read, or written, as one step of a drawn region. -/
theorem step_vload {ops : Array Oper} {o : Oper} {a : Act} {K : Act → World → Prop} {Q : Exit → Act → World → Prop} {E : Prop} {w : World} (hgd : o.guard = none) (x : Operand) (ho : o.op = .load 37 x)
    (b : Nat) (k : VmK) (hx : a.eval x = .pointer (some ⟨b, 0, none⟩)) (hb : VBox w b k) (h : K (a.put o.dst (vmV k)) w) :
    if Region.wanted o (yielded ops a.tmps) = true then Oper.wp Tryd.prog o a w K Q else E := by
  have hw : Region.wanted o (yielded ops a.tmps) = true := by simp [Region.wanted, hgd]
  rw [if_pos hw]
  exact wp_load_row 37 x ho b hx _ _ _ _ hb Tryd.underlying37 rfl vm_info h
theorem step_vstore {ops : Array Oper} {o : Oper} {a : Act} {K : Act → World → Prop} {Q : Exit → Act → World → Prop} {E : Prop} {w : World} (hgd : o.guard = none) (x y : Operand) (ho : o.op = .store 37 x y)
    (b : Nat) (j k : VmK) (hx : a.eval x = .pointer (some ⟨b, 0, none⟩)) (hy : a.eval y = vmV k) (hb : VBox w b j) (h : K (a.put o.dst undef) (w.setRow b (vmC k))) :
    if Region.wanted o (yielded ops a.tmps) = true then Oper.wp Tryd.prog o a w K Q else E := by
  have hw : Region.wanted o (yielded ops a.tmps) = true := by simp [Region.wanted, hgd]
  rw [if_pos hw]
  exact wp_store_row 37 x y ho b (vmC k) hx hy _ _ hb vm_info rfl (vm_one k) h
end Go.Proofs.YtbighilgkmfemaaDoor
