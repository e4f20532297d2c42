/- Part 17. -/
import Derived.Deep.MidRow
import Derived.Laws.IdiomCopy
import Derived.Test.YtcmldhjicjmmgaaGreatDoorXkAP
set_option linter.unusedVariables false
set_option linter.unusedSimpArgs false
set_option maxRecDepth 100000
set_option maxHeartbeats 4000000

namespace Go.Proofs.YtcmldhjicjmmgaaGreatDoor
open Go.RowKit


structure RnK where
  v : VmK
  ip : Int
  wv : Int
  dob : Bool
  fu : Int
abbrev rnV (r : RnK) : Value:=.agg #[.int .i64 r.v.cm,.int .i64 r.v.cd,.int .i64 r.v.cr,.int .i64 r.v.cw,.int .i64 r.v.co,.slice r.v.mA r.v.mn r.v.mc,.slice r.v.pA r.v.pn r.v.pc,.int .i64 r.v.here,.slice r.v.dA r.v.dn r.v.dc,.slice r.v.rA r.v.rn r.v.rc,.slice r.v.fA r.v.fn r.v.fc,.slice r.v.wA r.v.wn r.v.wc,.int .i64 r.v.last,.slice r.v.oA r.v.on r.v.oc,.slice r.v.qA r.v.qn r.v.qc,.bool r.v.qo,.slice r.v.eA r.v.en r.v.ec,.int .i64 r.v.free,.int .i64 r.v.next,.int .i64 r.v.arg,.int .i64 r.v.self,.int .i64 r.v.now,.slice r.v.hA r.v.hn r.v.hc,.int .i64 r.ip,.int .i64 r.wv,.bool r.dob,.int .i64 r.fu]
abbrev rnC (r : RnK) : Array Value:=#[.int .i64 r.v.cm,.int .i64 r.v.cd,.int .i64 r.v.cr,.int .i64 r.v.cw,.int .i64 r.v.co,.slice r.v.mA r.v.mn r.v.mc,.slice r.v.pA r.v.pn r.v.pc,.int .i64 r.v.here,.slice r.v.dA r.v.dn r.v.dc,.slice r.v.rA r.v.rn r.v.rc,.slice r.v.fA r.v.fn r.v.fc,.slice r.v.wA r.v.wn r.v.wc,.int .i64 r.v.last,.slice r.v.oA r.v.on r.v.oc,.slice r.v.qA r.v.qn r.v.qc,.bool r.v.qo,.slice r.v.eA r.v.en r.v.ec,.int .i64 r.v.free,.int .i64 r.v.next,.int .i64 r.v.arg,.int .i64 r.v.self,.int .i64 r.v.now,.slice r.v.hA r.v.hn r.v.hc,.int .i64 r.ip,.int .i64 r.wv,.bool r.dob,.int .i64 r.fu]
abbrev wkC (r : RnK) (e : Value) : Array Value:=#[.int .i64 r.v.cm,.int .i64 r.v.cd,.int .i64 r.v.cr,.int .i64 r.v.cw,.int .i64 r.v.co,.slice r.v.mA r.v.mn r.v.mc,.slice r.v.pA r.v.pn r.v.pc,.int .i64 r.v.here,.slice r.v.dA r.v.dn r.v.dc,.slice r.v.rA r.v.rn r.v.rc,.slice r.v.fA r.v.fn r.v.fc,.slice r.v.wA r.v.wn r.v.wc,.int .i64 r.v.last,.slice r.v.oA r.v.on r.v.oc,.slice r.v.qA r.v.qn r.v.qc,.bool r.v.qo,.slice r.v.eA r.v.en r.v.ec,.int .i64 r.v.free,.int .i64 r.v.next,.int .i64 r.v.arg,.int .i64 r.v.self,.int .i64 r.v.now,.slice r.v.hA r.v.hn r.v.hc,.int .i64 r.ip,.int .i64 r.wv,.bool r.dob,.int .i64 r.fu,e]
abbrev wkV (r : RnK) (e : Value) : Value:=.agg #[.int .i64 r.v.cm,.int .i64 r.v.cd,.int .i64 r.v.cr,.int .i64 r.v.cw,.int .i64 r.v.co,.slice r.v.mA r.v.mn r.v.mc,.slice r.v.pA r.v.pn r.v.pc,.int .i64 r.v.here,.slice r.v.dA r.v.dn r.v.dc,.slice r.v.rA r.v.rn r.v.rc,.slice r.v.fA r.v.fn r.v.fc,.slice r.v.wA r.v.wn r.v.wc,.int .i64 r.v.last,.slice r.v.oA r.v.on r.v.oc,.slice r.v.qA r.v.qn r.v.qc,.bool r.v.qo,.slice r.v.eA r.v.en r.v.ec,.int .i64 r.v.free,.int .i64 r.v.next,.int .i64 r.v.arg,.int .i64 r.v.self,.int .i64 r.v.now,.slice r.v.hA r.v.hn r.v.hc,.int .i64 r.ip,.int .i64 r.wv,.bool r.dob,.int .i64 r.fu,e]
def rn0 : RnK:=⟨vm0,0,0,false,0⟩
def RBox (w : World) (b : Nat) (r : RnK) : Prop:=w.heap[b]? = some (.cells #[.int .i64 r.v.cm,.int .i64 r.v.cd,.int .i64 r.v.cr,.int .i64 r.v.cw,.int .i64 r.v.co,.slice r.v.mA r.v.mn r.v.mc,.slice r.v.pA r.v.pn r.v.pc,.int .i64 r.v.here,.slice r.v.dA r.v.dn r.v.dc,.slice r.v.rA r.v.rn r.v.rc,.slice r.v.fA r.v.fn r.v.fc,.slice r.v.wA r.v.wn r.v.wc,.int .i64 r.v.last,.slice r.v.oA r.v.on r.v.oc,.slice r.v.qA r.v.qn r.v.qc,.bool r.v.qo,.slice r.v.eA r.v.en r.v.ec,.int .i64 r.v.free,.int .i64 r.v.next,.int .i64 r.v.arg,.int .i64 r.v.self,.int .i64 r.v.now,.slice r.v.hA r.v.hn r.v.hc,.int .i64 r.ip,.int .i64 r.wv,.bool r.dob,.int .i64 r.fu] 55)
def WkBox (w : World) (b : Nat) (r : RnK) (e : Value) : Prop:=w.heap[b]? = some (.cells #[.int .i64 r.v.cm,.int .i64 r.v.cd,.int .i64 r.v.cr,.int .i64 r.v.cw,.int .i64 r.v.co,.slice r.v.mA r.v.mn r.v.mc,.slice r.v.pA r.v.pn r.v.pc,.int .i64 r.v.here,.slice r.v.dA r.v.dn r.v.dc,.slice r.v.rA r.v.rn r.v.rc,.slice r.v.fA r.v.fn r.v.fc,.slice r.v.wA r.v.wn r.v.wc,.int .i64 r.v.last,.slice r.v.oA r.v.on r.v.oc,.slice r.v.qA r.v.qn r.v.qc,.bool r.v.qo,.slice r.v.eA r.v.en r.v.ec,.int .i64 r.v.free,.int .i64 r.v.next,.int .i64 r.v.arg,.int .i64 r.v.self,.int .i64 r.v.now,.slice r.v.hA r.v.hn r.v.hc,.int .i64 r.ip,.int .i64 r.wv,.bool r.dob,.int .i64 r.fu,e] 95)
theorem RBox.lt {w : World} {b : Nat} {r : RnK} (h : RBox w b r) : b < w.heap.size:=(Array.getElem?_eq_some_iff.1 h).1
theorem WkBox.lt {w : World} {b : Nat} {r : RnK} {e : Value} (h : WkBox w b r e) : b < w.heap.size:=(Array.getElem?_eq_some_iff.1 h).1
theorem RBox.keep {w w' : World} {b : Nat} {r : RnK} (h : RBox w b r) (x : Below w.heap.size w w') : RBox w' b r:=(x.block b h.lt).trans h
theorem WkBox.keep {w w' : World} {b : Nat} {r : RnK} {e : Value} (h : WkBox w b r e) (x : Below w.heap.size w w') : WkBox w' b r e:=(x.block b h.lt).trans h
theorem WkBox.same {w w' : World} {b : Nat} {r : RnK} {e : Value} (h : WkBox w b r e) (x : w'.heap[b]? = w.heap[b]?) : WkBox w' b r e:=x.trans h
theorem rbox_new (w : World) (r : RnK) : RBox (w.alloc (.cells #[.int .i64 r.v.cm,.int .i64 r.v.cd,.int .i64 r.v.cr,.int .i64 r.v.cw,.int .i64 r.v.co,.slice r.v.mA r.v.mn r.v.mc,.slice r.v.pA r.v.pn r.v.pc,.int .i64 r.v.here,.slice r.v.dA r.v.dn r.v.dc,.slice r.v.rA r.v.rn r.v.rc,.slice r.v.fA r.v.fn r.v.fc,.slice r.v.wA r.v.wn r.v.wc,.int .i64 r.v.last,.slice r.v.oA r.v.on r.v.oc,.slice r.v.qA r.v.qn r.v.qc,.bool r.v.qo,.slice r.v.eA r.v.en r.v.ec,.int .i64 r.v.free,.int .i64 r.v.next,.int .i64 r.v.arg,.int .i64 r.v.self,.int .i64 r.v.now,.slice r.v.hA r.v.hn r.v.hc,.int .i64 r.ip,.int .i64 r.wv,.bool r.dob,.int .i64 r.fu] 55)) w.heap.size r:=heap_alloc_new w _
theorem wkbox_new (w : World) (r : RnK) (e : Value) : WkBox (w.alloc (.cells #[.int .i64 r.v.cm,.int .i64 r.v.cd,.int .i64 r.v.cr,.int .i64 r.v.cw,.int .i64 r.v.co,.slice r.v.mA r.v.mn r.v.mc,.slice r.v.pA r.v.pn r.v.pc,.int .i64 r.v.here,.slice r.v.dA r.v.dn r.v.dc,.slice r.v.rA r.v.rn r.v.rc,.slice r.v.fA r.v.fn r.v.fc,.slice r.v.wA r.v.wn r.v.wc,.int .i64 r.v.last,.slice r.v.oA r.v.on r.v.oc,.slice r.v.qA r.v.qn r.v.qc,.bool r.v.qo,.slice r.v.eA r.v.en r.v.ec,.int .i64 r.v.free,.int .i64 r.v.next,.int .i64 r.v.arg,.int .i64 r.v.self,.int .i64 r.v.now,.slice r.v.hA r.v.hn r.v.hc,.int .i64 r.ip,.int .i64 r.wv,.bool r.dob,.int .i64 r.fu,e] 95)) w.heap.size r e:=heap_alloc_new w _
theorem run_info : (Tryz.prog.info? 55).map (·.size) = some 27:=by kernel_rfl
theorem work_info : (Tryz.prog.info? 95).map (·.size) = some 28:=by kernel_rfl
theorem run_one9 (r : RnK) : (rnC r).all (·.oneCell') = true:=by simp [Value.oneCell']
theorem rrow {w : World} {b : Nat} {j : RnK} (h : RBox w b j) (r : RnK) : RBox (w.setRow b (rnC r)) b r:=setRow_heap w b _ _ _ _ h
theorem wkrow {w : World} {b : Nat} {j : RnK} {e : Value} (h : WkBox w b j e) (r : RnK) (f : Value) : WkBox (w.setRow b (wkC r f)) b r f:=setRow_heap w b _ _ _ _ h
theorem RBox.c0 {w : World} {b : Nat} {r : RnK} (h : RBox w b r) : w.cell? ⟨b,0,none⟩ = some (.int .i64 r.v.cm):=by unfold RBox at h; simp [World.cell?,h]
theorem RBox.c1 {w : World} {b : Nat} {r : RnK} (h : RBox w b r) : w.cell? ⟨b,1,none⟩ = some (.int .i64 r.v.cd):=by unfold RBox at h; simp [World.cell?,h]
theorem RBox.c2 {w : World} {b : Nat} {r : RnK} (h : RBox w b r) : w.cell? ⟨b,2,none⟩ = some (.int .i64 r.v.cr):=by unfold RBox at h; simp [World.cell?,h]
theorem RBox.c3 {w : World} {b : Nat} {r : RnK} (h : RBox w b r) : w.cell? ⟨b,3,none⟩ = some (.int .i64 r.v.cw):=by unfold RBox at h; simp [World.cell?,h]
theorem RBox.c4 {w : World} {b : Nat} {r : RnK} (h : RBox w b r) : w.cell? ⟨b,4,none⟩ = some (.int .i64 r.v.co):=by unfold RBox at h; simp [World.cell?,h]
theorem RBox.c5 {w : World} {b : Nat} {r : RnK} (h : RBox w b r) : w.cell? ⟨b,5,none⟩ = some (.slice r.v.mA r.v.mn r.v.mc):=by unfold RBox at h; simp [World.cell?,h]
theorem RBox.c6 {w : World} {b : Nat} {r : RnK} (h : RBox w b r) : w.cell? ⟨b,6,none⟩ = some (.slice r.v.pA r.v.pn r.v.pc):=by unfold RBox at h; simp [World.cell?,h]
theorem RBox.c8 {w : World} {b : Nat} {r : RnK} (h : RBox w b r) : w.cell? ⟨b,8,none⟩ = some (.slice r.v.dA r.v.dn r.v.dc):=by unfold RBox at h; simp [World.cell?,h]
theorem RBox.c9 {w : World} {b : Nat} {r : RnK} (h : RBox w b r) : w.cell? ⟨b,9,none⟩ = some (.slice r.v.rA r.v.rn r.v.rc):=by unfold RBox at h; simp [World.cell?,h]
theorem RBox.c10 {w : World} {b : Nat} {r : RnK} (h : RBox w b r) : w.cell? ⟨b,10,none⟩ = some (.slice r.v.fA r.v.fn r.v.fc):=by unfold RBox at h; simp [World.cell?,h]
theorem RBox.c11 {w : World} {b : Nat} {r : RnK} (h : RBox w b r) : w.cell? ⟨b,11,none⟩ = some (.slice r.v.wA r.v.wn r.v.wc):=by unfold RBox at h; simp [World.cell?,h]
theorem RBox.c23 {w : World} {b : Nat} {r : RnK} (h : RBox w b r) : w.cell? ⟨b,23,none⟩ = some (.int .i64 r.ip):=by unfold RBox at h; simp [World.cell?,h]
theorem RBox.c24 {w : World} {b : Nat} {r : RnK} (h : RBox w b r) : w.cell? ⟨b,24,none⟩ = some (.int .i64 r.wv):=by unfold RBox at h; simp [World.cell?,h]
theorem RBox.c25 {w : World} {b : Nat} {r : RnK} (h : RBox w b r) : w.cell? ⟨b,25,none⟩ = some (.bool r.dob):=by unfold RBox at h; simp [World.cell?,h]
theorem RBox.c26 {w : World} {b : Nat} {r : RnK} (h : RBox w b r) : w.cell? ⟨b,26,none⟩ = some (.int .i64 r.fu):=by unfold RBox at h; simp [World.cell?,h]
theorem RBox.fr {w : World} {b : Nat} {r : RnK} (h : RBox w b r) (i : Nat) : w.frozen? ⟨b,i,none⟩ = false:=by unfold RBox at h; simp [World.frozen?,h]
theorem RBox.set_ip {w : World} {b : Nat} {r : RnK} (h : RBox w b r) (x : Int) : RBox (w.setCell ⟨b,23,none⟩ (.int .i64 x)) b { r with ip:=x }:=by
  have h1:=Go.Joins.block_setCell (i:=23) h (.int .i64 x);simpa [RBox] using h1
theorem RBox.set_wv {w : World} {b : Nat} {r : RnK} (h : RBox w b r) (x : Int) : RBox (w.setCell ⟨b,24,none⟩ (.int .i64 x)) b { r with wv:=x }:=by
  have h1:=Go.Joins.block_setCell (i:=24) h (.int .i64 x);simpa [RBox] using h1
theorem RBox.set_dob {w : World} {b : Nat} {r : RnK} (h : RBox w b r) (x : Bool) : RBox (w.setCell ⟨b,25,none⟩ (.bool x)) b { r with dob:=x }:=by
  have h1:=Go.Joins.block_setCell (i:=25) h (.bool x);simpa [RBox] using h1
theorem RBox.set_fu {w : World} {b : Nat} {r : RnK} (h : RBox w b r) (x : Int) : RBox (w.setCell ⟨b,26,none⟩ (.int .i64 x)) b { r with fu:=x }:=by
  have h1:=Go.Joins.block_setCell (i:=26) h (.int .i64 x);simpa [RBox] using h1
theorem RBox.set_d {w : World} {b : Nat} {r : RnK} (h : RBox w b r) (B : Option Addr) (m d : Nat) : RBox (w.setCell ⟨b,8,none⟩ (.slice B m d)) b { r with v:={ r.v with dA:=B,dn:=m,dc:=d } }:=by
  have h1:=Go.Joins.block_setCell (i:=8) h (.slice B m d);simpa [RBox] using h1
theorem RBox.set_r {w : World} {b : Nat} {r : RnK} (h : RBox w b r) (B : Option Addr) (m d : Nat) : RBox (w.setCell ⟨b,9,none⟩ (.slice B m d)) b { r with v:={ r.v with rA:=B,rn:=m,rc:=d } }:=by
  have h1:=Go.Joins.block_setCell (i:=9) h (.slice B m d);simpa [RBox] using h1
theorem RBox.set_f {w : World} {b : Nat} {r : RnK} (h : RBox w b r) (B : Option Addr) (m d : Nat) : RBox (w.setCell ⟨b,10,none⟩ (.slice B m d)) b { r with v:={ r.v with fA:=B,fn:=m,fc:=d } }:=by
  have h1:=Go.Joins.block_setCell (i:=10) h (.slice B m d);simpa [RBox] using h1
theorem RBox.set_m {w : World} {b : Nat} {r : RnK} (h : RBox w b r) (B : Option Addr) (m d : Nat) : RBox (w.setCell ⟨b,5,none⟩ (.slice B m d)) b { r with v:={ r.v with mA:=B,mn:=m,mc:=d } }:=by
  have h1:=Go.Joins.block_setCell (i:=5) h (.slice B m d);simpa [RBox] using h1
theorem RBox.set_p {w : World} {b : Nat} {r : RnK} (h : RBox w b r) (B : Option Addr) (m d : Nat) : RBox (w.setCell ⟨b,6,none⟩ (.slice B m d)) b { r with v:={ r.v with pA:=B,pn:=m,pc:=d } }:=by
  have h1:=Go.Joins.block_setCell (i:=6) h (.slice B m d);simpa [RBox] using h1
theorem RBox.away {w : World} {b g i : Nat} {r : RnK} {x : Value} (h : RBox w b r) (hne : b ≠ g) : RBox (w.setCell ⟨g,i,none⟩ x) b r:=by unfold RBox at h ⊢; rw [Below.heap_setCell w ⟨g,i,none⟩ x b hne]; exact h
theorem RBox.away_row {w : World} {b g : Nat} {r : RnK} (h : RBox w b r) (hne : b ≠ g) (cs : Array Value) : RBox (w.setRow g cs) b r:=by unfold RBox at h ⊢; rw [setRow_other w g b cs hne]; exact h
theorem WkBox.c0 {w : World} {b : Nat} {r : RnK} {e : Value} (h : WkBox w b r e) : w.cell? ⟨b,0,none⟩ = some (.int .i64 r.v.cm):=by unfold WkBox at h; simp [World.cell?,h]
theorem WkBox.c1 {w : World} {b : Nat} {r : RnK} {e : Value} (h : WkBox w b r e) : w.cell? ⟨b,1,none⟩ = some (.int .i64 r.v.cd):=by unfold WkBox at h; simp [World.cell?,h]
theorem WkBox.c2 {w : World} {b : Nat} {r : RnK} {e : Value} (h : WkBox w b r e) : w.cell? ⟨b,2,none⟩ = some (.int .i64 r.v.cr):=by unfold WkBox at h; simp [World.cell?,h]
theorem WkBox.c3 {w : World} {b : Nat} {r : RnK} {e : Value} (h : WkBox w b r e) : w.cell? ⟨b,3,none⟩ = some (.int .i64 r.v.cw):=by unfold WkBox at h; simp [World.cell?,h]
theorem WkBox.c4 {w : World} {b : Nat} {r : RnK} {e : Value} (h : WkBox w b r e) : w.cell? ⟨b,4,none⟩ = some (.int .i64 r.v.co):=by unfold WkBox at h; simp [World.cell?,h]
theorem WkBox.c5 {w : World} {b : Nat} {r : RnK} {e : Value} (h : WkBox w b r e) : w.cell? ⟨b,5,none⟩ = some (.slice r.v.mA r.v.mn r.v.mc):=by unfold WkBox at h; simp [World.cell?,h]
theorem WkBox.c6 {w : World} {b : Nat} {r : RnK} {e : Value} (h : WkBox w b r e) : w.cell? ⟨b,6,none⟩ = some (.slice r.v.pA r.v.pn r.v.pc):=by unfold WkBox at h; simp [World.cell?,h]
theorem WkBox.c8 {w : World} {b : Nat} {r : RnK} {e : Value} (h : WkBox w b r e) : w.cell? ⟨b,8,none⟩ = some (.slice r.v.dA r.v.dn r.v.dc):=by unfold WkBox at h; simp [World.cell?,h]
theorem WkBox.c9 {w : World} {b : Nat} {r : RnK} {e : Value} (h : WkBox w b r e) : w.cell? ⟨b,9,none⟩ = some (.slice r.v.rA r.v.rn r.v.rc):=by unfold WkBox at h; simp [World.cell?,h]
theorem WkBox.c10 {w : World} {b : Nat} {r : RnK} {e : Value} (h : WkBox w b r e) : w.cell? ⟨b,10,none⟩ = some (.slice r.v.fA r.v.fn r.v.fc):=by unfold WkBox at h; simp [World.cell?,h]
theorem WkBox.c11 {w : World} {b : Nat} {r : RnK} {e : Value} (h : WkBox w b r e) : w.cell? ⟨b,11,none⟩ = some (.slice r.v.wA r.v.wn r.v.wc):=by unfold WkBox at h; simp [World.cell?,h]
theorem WkBox.c23 {w : World} {b : Nat} {r : RnK} {e : Value} (h : WkBox w b r e) : w.cell? ⟨b,23,none⟩ = some (.int .i64 r.ip):=by unfold WkBox at h; simp [World.cell?,h]
theorem WkBox.c24 {w : World} {b : Nat} {r : RnK} {e : Value} (h : WkBox w b r e) : w.cell? ⟨b,24,none⟩ = some (.int .i64 r.wv):=by unfold WkBox at h; simp [World.cell?,h]
theorem WkBox.c25 {w : World} {b : Nat} {r : RnK} {e : Value} (h : WkBox w b r e) : w.cell? ⟨b,25,none⟩ = some (.bool r.dob):=by unfold WkBox at h; simp [World.cell?,h]
theorem WkBox.c26 {w : World} {b : Nat} {r : RnK} {e : Value} (h : WkBox w b r e) : w.cell? ⟨b,26,none⟩ = some (.int .i64 r.fu):=by unfold WkBox at h; simp [World.cell?,h]
theorem WkBox.c27 {w : World} {b : Nat} {r : RnK} {e : Value} (h : WkBox w b r e) : w.cell? ⟨b,27,none⟩ = some (e):=by unfold WkBox at h; simp [World.cell?,h]
theorem WkBox.fr {w : World} {b : Nat} {r : RnK} {e : Value} (h : WkBox w b r e) (i : Nat) : w.frozen? ⟨b,i,none⟩ = false:=by unfold WkBox at h; simp [World.frozen?,h]
theorem WkBox.set_ip {w : World} {b : Nat} {r : RnK} {e : Value} (h : WkBox w b r e) (x : Int) : WkBox (w.setCell ⟨b,23,none⟩ (.int .i64 x)) b { r with ip:=x } e:=by
  have h1:=Go.Joins.block_setCell (i:=23) h (.int .i64 x);simpa [WkBox] using h1
theorem WkBox.set_wv {w : World} {b : Nat} {r : RnK} {e : Value} (h : WkBox w b r e) (x : Int) : WkBox (w.setCell ⟨b,24,none⟩ (.int .i64 x)) b { r with wv:=x } e:=by
  have h1:=Go.Joins.block_setCell (i:=24) h (.int .i64 x);simpa [WkBox] using h1
theorem WkBox.set_dob {w : World} {b : Nat} {r : RnK} {e : Value} (h : WkBox w b r e) (x : Bool) : WkBox (w.setCell ⟨b,25,none⟩ (.bool x)) b { r with dob:=x } e:=by
  have h1:=Go.Joins.block_setCell (i:=25) h (.bool x);simpa [WkBox] using h1
theorem WkBox.set_fu {w : World} {b : Nat} {r : RnK} {e : Value} (h : WkBox w b r e) (x : Int) : WkBox (w.setCell ⟨b,26,none⟩ (.int .i64 x)) b { r with fu:=x } e:=by
  have h1:=Go.Joins.block_setCell (i:=26) h (.int .i64 x);simpa [WkBox] using h1
theorem WkBox.set_d {w : World} {b : Nat} {r : RnK} {e : Value} (h : WkBox w b r e) (B : Option Addr) (m d : Nat) : WkBox (w.setCell ⟨b,8,none⟩ (.slice B m d)) b { r with v:={ r.v with dA:=B,dn:=m,dc:=d } } e:=by
  have h1:=Go.Joins.block_setCell (i:=8) h (.slice B m d);simpa [WkBox] using h1
theorem WkBox.set_r {w : World} {b : Nat} {r : RnK} {e : Value} (h : WkBox w b r e) (B : Option Addr) (m d : Nat) : WkBox (w.setCell ⟨b,9,none⟩ (.slice B m d)) b { r with v:={ r.v with rA:=B,rn:=m,rc:=d } } e:=by
  have h1:=Go.Joins.block_setCell (i:=9) h (.slice B m d);simpa [WkBox] using h1
theorem WkBox.set_f {w : World} {b : Nat} {r : RnK} {e : Value} (h : WkBox w b r e) (B : Option Addr) (m d : Nat) : WkBox (w.setCell ⟨b,10,none⟩ (.slice B m d)) b { r with v:={ r.v with fA:=B,fn:=m,fc:=d } } e:=by
  have h1:=Go.Joins.block_setCell (i:=10) h (.slice B m d);simpa [WkBox] using h1
theorem WkBox.set_m {w : World} {b : Nat} {r : RnK} {e : Value} (h : WkBox w b r e) (B : Option Addr) (m d : Nat) : WkBox (w.setCell ⟨b,5,none⟩ (.slice B m d)) b { r with v:={ r.v with mA:=B,mn:=m,mc:=d } } e:=by
  have h1:=Go.Joins.block_setCell (i:=5) h (.slice B m d);simpa [WkBox] using h1
theorem WkBox.set_p {w : World} {b : Nat} {r : RnK} {e : Value} (h : WkBox w b r e) (B : Option Addr) (m d : Nat) : WkBox (w.setCell ⟨b,6,none⟩ (.slice B m d)) b { r with v:={ r.v with pA:=B,pn:=m,pc:=d } } e:=by
  have h1:=Go.Joins.block_setCell (i:=6) h (.slice B m d);simpa [WkBox] using h1
theorem WkBox.set_e {w : World} {b : Nat} {r : RnK} {e : Value} (h : WkBox w b r e) (f : Value) : WkBox (w.setCell ⟨b,27,none⟩ f) b r f:=by
  have h1:=Go.Joins.block_setCell (i:=27) h f;simpa [WkBox] using h1
theorem WkBox.away {w : World} {b g i : Nat} {r : RnK} {e : Value} {x : Value} (h : WkBox w b r e) (hne : b ≠ g) : WkBox (w.setCell ⟨g,i,none⟩ x) b r e:=by unfold WkBox at h ⊢; rw [Below.heap_setCell w ⟨g,i,none⟩ x b hne]; exact h
theorem WkBox.away_row {w : World} {b g : Nat} {r : RnK} {e : Value} (h : WkBox w b r e) (hne : b ≠ g) (cs : Array Value) : WkBox (w.setRow g cs) b r e:=by unfold WkBox at h ⊢; rw [setRow_other w g b cs hne]; exact h
theorem setCells_row (b : Nat) (t : TypeId) : ∀ (vs : List Value) (o : Nat) (cur : Array Value) (w : World),w.heap[b]? = some (.cells cur t) → w.setCells b o vs = w.setRow b (vs.foldl (fun (p : Nat × Array Value) v => (p.1 + 1,p.2.setIfInBounds p.1 v)) (o,cur)).2
  | [],o,cur,w,h => by
    show w = w.setRow b cur;have hlt:=(Array.getElem?_eq_some_iff.1 h).1;have hv:=(Array.getElem?_eq_some_iff.1 h).2;unfold World.setRow;cases w with
    | mk a =>
      congr 1
      apply Array.ext
      · simp
      · intro i h1 h2
        simp only [Array.getElem_modify]
        split
        · rename_i hk
          subst hk;simp at hv;simp [hv]
        · rfl
  | v :: vs,o,cur,w,h => by
    show (w.setCell ⟨b,o,none⟩ v).setCells b (o + 1) vs = _;have e:=setCell_eq_setRow w b o cur t (0,0) v h;rw [setCells_row b t vs (o + 1) (cur.setIfInBounds o v) _ (by rw [e]; exact setRow_heap w b _ _ _ _ h),e,setRow_setRow];rfl
theorem nou8_of {w : World} {b : Nat} {cs : Array Value} {t : TypeId} (h : w.heap[b]? = some (.cells cs t)) (hn : ∀ v ∈ cs,∀ i,v ≠ .int .u8 i) : NoU8 w b:=by
  intro o x e;unfold World.cell? at e;rw [h] at e;have e' : cs[o]? = some (.int .u8 x):=by simpa using e
  exact hn _ (Array.mem_of_getElem? e') x rfl
theorem rbox_nou8 {w : World} {b : Nat} {r : RnK} (h : RBox w b r) : NoU8 w b:=nou8_of h (by simp)
theorem wk_nou8 {w : World} {b : Nat} {r : RnK} {e : Value} (h : WkBox w b r e) (he : ∀ i,e ≠ .int .u8 i) : NoU8 w b:=nou8_of h (by simp; exact fun i => he i)
theorem isvm_apart {u V : World} {k : VmK} {L : VmL} {b : Nat} (h : IsVm u k L) (f : Free k b) (x : Ex (fun g => g = b) u V) (hb : NoU8 u b) : IsVm V k L:=by
  have hv : ∀ g,g < u.heap.size → V.heap[g]? = u.heap[g]? ∨ NoU8 u g:=fun g hg => by
    by_cases e : g = b
    · subst e; exact .inr hb
    · exact .inl (x.same g hg e)
  refine ⟨?_,⟨h.d.1,h.d.2.1,h.d.2.2.1,lies_free (n:=k.dn) (s:=1) h.d.2.2.2 (by rw [ints_len,h.d.1,Nat.mul_one]) f.d x⟩,⟨h.r.1,h.r.2.1,h.r.2.2.1,lies_free (n:=k.rn) (s:=1) h.r.2.2.2 (by rw [ints_len,h.r.1,Nat.mul_one]) f.r x⟩,
    rws_free (s:=3) (fun _ => rfl) h.f f.f x,?_,byt_across h.o x.size hv,byt_across h.q x.size hv,rws_free (s:=6) (fun _ => rfl) h.e f.e x,rws_free (s:=4) (fun _ => rfl) h.h f.h x⟩
  · obtain ⟨b0,o0,e,h0,A,c,qs,h1,h2,h3,h4,h5⟩:=h.m
    have e9:=e;injection e with e
    simp at e;obtain ⟨rfl,rfl⟩:=e;have hh:=h1;injection h1 with h1 hn hc
    subst h1;exact ⟨_,_,rfl,byt_across h0 x.size hv,_,_,qs,hh,h2,h3,lies_free (n:=k.pn) (s:=2) h4 (by rw [pc_len,h5.1,hn]; omega) f.p x,h5.1,fun i q p hq hp => ⟨(h5.2 i q p hq hp).1,byt_across (h5.2 i q p hq hp).2 x.size hv⟩⟩
  · have hl:=h.dict.len
    have h4:=lies_free (n:=k.wn) (s:=3) h.dict.lies (by rw [wds_len,hl]) f.w x;obtain ⟨A',c',e,h1,h2,_⟩:=h.dict;exact ⟨A',c',e,h1,h2,by injection e with e1 _ _; subst e1; exact h4⟩
theorem mem_info9 : (Tryz.prog.info? 29).map (·.size) = some 2:=by kernel_rfl
theorem RBox.there {w : World} {b : Nat} {r : RnK} (h : RBox w b r) (o n : Nat) (hn : o + n ≤ 27) : w.there b o n:=fun j hj => by
  have hc:=cell_of_row w b (o + j) _ _ _ h;refine ⟨?_,frozen_of_row w b (o + j) _ _ h⟩;rw [hc,Array.getElem?_eq_getElem (by show o + j < _; simp; omega)];rfl
theorem rb_ext_v (r : RnK) : ((rnC r).extract 0 (0 + 23)).toList = [.int .i64 r.v.cm,.int .i64 r.v.cd,.int .i64 r.v.cr,.int .i64 r.v.cw,.int .i64 r.v.co,.slice r.v.mA r.v.mn r.v.mc,.slice r.v.pA r.v.pn r.v.pc,.int .i64 r.v.here,.slice r.v.dA r.v.dn r.v.dc,.slice r.v.rA r.v.rn r.v.rc,.slice r.v.fA r.v.fn r.v.fc,.slice r.v.wA r.v.wn r.v.wc,.int .i64 r.v.last,.slice r.v.oA r.v.on r.v.oc,.slice r.v.qA r.v.qn r.v.qc,.bool r.v.qo,.slice r.v.eA r.v.en r.v.ec,.int .i64 r.v.free,.int .i64 r.v.next,.int .i64 r.v.arg,.int .i64 r.v.self,.int .i64 r.v.now,.slice r.v.hA r.v.hn r.v.hc]:=by kernel_rfl
theorem RBox.range_v {w : World} {b : Nat} {r : RnK} (h : RBox w b r) : w.rangeAt b 0 [.int .i64 r.v.cm,.int .i64 r.v.cd,.int .i64 r.v.cr,.int .i64 r.v.cw,.int .i64 r.v.co,.slice r.v.mA r.v.mn r.v.mc,.slice r.v.pA r.v.pn r.v.pc,.int .i64 r.v.here,.slice r.v.dA r.v.dn r.v.dc,.slice r.v.rA r.v.rn r.v.rc,.slice r.v.fA r.v.fn r.v.fc,.slice r.v.wA r.v.wn r.v.wc,.int .i64 r.v.last,.slice r.v.oA r.v.on r.v.oc,.slice r.v.qA r.v.qn r.v.qc,.bool r.v.qo,.slice r.v.eA r.v.en r.v.ec,.int .i64 r.v.free,.int .i64 r.v.next,.int .i64 r.v.arg,.int .i64 r.v.self,.int .i64 r.v.now,.slice r.v.hA r.v.hn r.v.hc]:=rb_ext_v r ▸ World.rangeAt_of_block h 0 23
theorem rb_ext_m (r : RnK) : ((rnC r).extract 5 (5 + 2)).toList = [.slice r.v.mA r.v.mn r.v.mc,.slice r.v.pA r.v.pn r.v.pc]:=by kernel_rfl
theorem RBox.range_m {w : World} {b : Nat} {r : RnK} (h : RBox w b r) : w.rangeAt b 5 [.slice r.v.mA r.v.mn r.v.mc,.slice r.v.pA r.v.pn r.v.pc]:=rb_ext_m r ▸ World.rangeAt_of_block h 5 2
theorem rb_fold_v (r : RnK) (k : VmK) : ((vmC k).toList.foldl (fun (p : Nat × Array Value) v => (p.1 + 1,p.2.setIfInBounds p.1 v)) (0,rnC r)).2 = rnC { r with v:=k }:=by kernel_rfl
theorem wpList_rbvload {ops : Array Oper} {rest : List Oper} {o : Oper} {a : Act} {Q : Exit → Act → World → Prop} {w : World} (hw : Region.wanted o (yielded ops a.tmps) = true) (x : Operand) (ho : o.op = .load 37 x)
    (b : Nat) (r : RnK) (hx : a.eval x = .pointer (some ⟨b,0,none⟩)) (hb : RBox w b r) (h : wpList Tryz.prog ops Q rest (a.put o.dst (vmV r.v)) w) : wpList Tryz.prog ops Q (o :: rest) a w :=
  wpList_step fun K hK => by
    rw [if_pos hw];exact wp_load_mid 37 x ho b 0 hx _ _ hb.range_v Tryz.underlying37 rfl vm_info (hK _ _ h)
theorem wpList_rbmload {ops : Array Oper} {rest : List Oper} {o : Oper} {a : Act} {Q : Exit → Act → World → Prop} {w : World} (hw : Region.wanted o (yielded ops a.tmps) = true) (x : Operand) (ho : o.op = .load 29 x)
    (b : Nat) (r : RnK) (hx : a.eval x = .pointer (some ⟨b,5,none⟩)) (hb : RBox w b r) (h : wpList Tryz.prog ops Q rest (a.put o.dst (.agg #[.slice r.v.mA r.v.mn r.v.mc,.slice r.v.pA r.v.pn r.v.pc])) w) : wpList Tryz.prog ops Q (o :: rest) a w :=
  wpList_step fun K hK => by
    rw [if_pos hw];exact wp_load_mid 29 x ho b 5 hx _ _ hb.range_m Tryz.underlying29 rfl mem_info9 (hK _ _ h)
theorem wpList_rbvstore {ops : Array Oper} {rest : List Oper} {o : Oper} {a : Act} {Q : Exit → Act → World → Prop} {w : World} (hw : Region.wanted o (yielded ops a.tmps) = true) (x y : Operand) (ho : o.op = .store 37 x y)
    (b : Nat) (r : RnK) (k : VmK) (hx : a.eval x = .pointer (some ⟨b,0,none⟩)) (hy : a.eval y = vmV k) (hb : RBox w b r) (h : wpList Tryz.prog ops Q rest (a.put o.dst undef) (w.setRow b (rnC { r with v:=k }))) : wpList Tryz.prog ops Q (o :: rest) a w :=
  wpList_step fun K hK => by
    rw [if_pos hw];refine wp_store_mid 37 x y ho b 0 (vmC k) hx hy (hb.there 0 23 (by decide)) vm_info (vm_one k) (hK _ _ ?_);rw [setCells_row b _ _ 0 _ w hb,rb_fold_v];exact h
theorem WkBox.there {w : World} {b : Nat} {r : RnK} {e : Value} (h : WkBox w b r e) (o n : Nat) (hn : o + n ≤ 27) : w.there b o n:=fun j hj => by
  have hc:=cell_of_row w b (o + j) _ _ _ h;refine ⟨?_,frozen_of_row w b (o + j) _ _ h⟩;rw [hc,Array.getElem?_eq_getElem (by show o + j < _; simp; omega)];rfl
theorem wk_ext_v (r : RnK) (e : Value) : ((wkC r e).extract 0 (0 + 23)).toList = [.int .i64 r.v.cm,.int .i64 r.v.cd,.int .i64 r.v.cr,.int .i64 r.v.cw,.int .i64 r.v.co,.slice r.v.mA r.v.mn r.v.mc,.slice r.v.pA r.v.pn r.v.pc,.int .i64 r.v.here,.slice r.v.dA r.v.dn r.v.dc,.slice r.v.rA r.v.rn r.v.rc,.slice r.v.fA r.v.fn r.v.fc,.slice r.v.wA r.v.wn r.v.wc,.int .i64 r.v.last,.slice r.v.oA r.v.on r.v.oc,.slice r.v.qA r.v.qn r.v.qc,.bool r.v.qo,.slice r.v.eA r.v.en r.v.ec,.int .i64 r.v.free,.int .i64 r.v.next,.int .i64 r.v.arg,.int .i64 r.v.self,.int .i64 r.v.now,.slice r.v.hA r.v.hn r.v.hc]:=by kernel_rfl
theorem WkBox.range_v {w : World} {b : Nat} {r : RnK} {e : Value} (h : WkBox w b r e) : w.rangeAt b 0 [.int .i64 r.v.cm,.int .i64 r.v.cd,.int .i64 r.v.cr,.int .i64 r.v.cw,.int .i64 r.v.co,.slice r.v.mA r.v.mn r.v.mc,.slice r.v.pA r.v.pn r.v.pc,.int .i64 r.v.here,.slice r.v.dA r.v.dn r.v.dc,.slice r.v.rA r.v.rn r.v.rc,.slice r.v.fA r.v.fn r.v.fc,.slice r.v.wA r.v.wn r.v.wc,.int .i64 r.v.last,.slice r.v.oA r.v.on r.v.oc,.slice r.v.qA r.v.qn r.v.qc,.bool r.v.qo,.slice r.v.eA r.v.en r.v.ec,.int .i64 r.v.free,.int .i64 r.v.next,.int .i64 r.v.arg,.int .i64 r.v.self,.int .i64 r.v.now,.slice r.v.hA r.v.hn r.v.hc]:=wk_ext_v r e ▸ World.rangeAt_of_block h 0 23
theorem wk_ext_m (r : RnK) (e : Value) : ((wkC r e).extract 5 (5 + 2)).toList = [.slice r.v.mA r.v.mn r.v.mc,.slice r.v.pA r.v.pn r.v.pc]:=by kernel_rfl
theorem WkBox.range_m {w : World} {b : Nat} {r : RnK} {e : Value} (h : WkBox w b r e) : w.rangeAt b 5 [.slice r.v.mA r.v.mn r.v.mc,.slice r.v.pA r.v.pn r.v.pc]:=wk_ext_m r e ▸ World.rangeAt_of_block h 5 2
theorem wk_fold_v (r : RnK) (e : Value) (k : VmK) : ((vmC k).toList.foldl (fun (p : Nat × Array Value) v => (p.1 + 1,p.2.setIfInBounds p.1 v)) (0,wkC r e)).2 = wkC { r with v:=k } e:=by kernel_rfl
theorem wpList_wkvload {ops : Array Oper} {rest : List Oper} {o : Oper} {a : Act} {Q : Exit → Act → World → Prop} {w : World} (hw : Region.wanted o (yielded ops a.tmps) = true) (x : Operand) (ho : o.op = .load 37 x)
    (b : Nat) (r : RnK) (e : Value) (hx : a.eval x = .pointer (some ⟨b,0,none⟩)) (hb : WkBox w b r e) (h : wpList Tryz.prog ops Q rest (a.put o.dst (vmV r.v)) w) : wpList Tryz.prog ops Q (o :: rest) a w :=
  wpList_step fun K hK => by
    rw [if_pos hw];exact wp_load_mid 37 x ho b 0 hx _ _ hb.range_v Tryz.underlying37 rfl vm_info (hK _ _ h)
theorem wpList_wkmload {ops : Array Oper} {rest : List Oper} {o : Oper} {a : Act} {Q : Exit → Act → World → Prop} {w : World} (hw : Region.wanted o (yielded ops a.tmps) = true) (x : Operand) (ho : o.op = .load 29 x)
    (b : Nat) (r : RnK) (e : Value) (hx : a.eval x = .pointer (some ⟨b,5,none⟩)) (hb : WkBox w b r e) (h : wpList Tryz.prog ops Q rest (a.put o.dst (.agg #[.slice r.v.mA r.v.mn r.v.mc,.slice r.v.pA r.v.pn r.v.pc])) w) : wpList Tryz.prog ops Q (o :: rest) a w :=
  wpList_step fun K hK => by
    rw [if_pos hw];exact wp_load_mid 29 x ho b 5 hx _ _ hb.range_m Tryz.underlying29 rfl mem_info9 (hK _ _ h)
theorem wpList_wkvstore {ops : Array Oper} {rest : List Oper} {o : Oper} {a : Act} {Q : Exit → Act → World → Prop} {w : World} (hw : Region.wanted o (yielded ops a.tmps) = true) (x y : Operand) (ho : o.op = .store 37 x y)
    (b : Nat) (r : RnK) (e : Value) (k : VmK) (hx : a.eval x = .pointer (some ⟨b,0,none⟩)) (hy : a.eval y = vmV k) (hb : WkBox w b r e) (h : wpList Tryz.prog ops Q rest (a.put o.dst undef) (w.setRow b (wkC { r with v:=k } e))) : wpList Tryz.prog ops Q (o :: rest) a w :=
  wpList_step fun K hK => by
    rw [if_pos hw];refine wp_store_mid 37 x y ho b 0 (vmC k) hx hy (hb.there 0 23 (by decide)) vm_info (vm_one k) (hK _ _ ?_);rw [setCells_row b _ _ 0 _ w hb,wk_fold_v];exact h
theorem wk_ext_r (r : RnK) (e : Value) : ((wkC r e).extract 0 (0 + 27)).toList = [.int .i64 r.v.cm,.int .i64 r.v.cd,.int .i64 r.v.cr,.int .i64 r.v.cw,.int .i64 r.v.co,.slice r.v.mA r.v.mn r.v.mc,.slice r.v.pA r.v.pn r.v.pc,.int .i64 r.v.here,.slice r.v.dA r.v.dn r.v.dc,.slice r.v.rA r.v.rn r.v.rc,.slice r.v.fA r.v.fn r.v.fc,.slice r.v.wA r.v.wn r.v.wc,.int .i64 r.v.last,.slice r.v.oA r.v.on r.v.oc,.slice r.v.qA r.v.qn r.v.qc,.bool r.v.qo,.slice r.v.eA r.v.en r.v.ec,.int .i64 r.v.free,.int .i64 r.v.next,.int .i64 r.v.arg,.int .i64 r.v.self,.int .i64 r.v.now,.slice r.v.hA r.v.hn r.v.hc,.int .i64 r.ip,.int .i64 r.wv,.bool r.dob,.int .i64 r.fu]:=by kernel_rfl
theorem WkBox.range_r {w : World} {b : Nat} {r : RnK} {e : Value} (h : WkBox w b r e) : w.rangeAt b 0 [.int .i64 r.v.cm,.int .i64 r.v.cd,.int .i64 r.v.cr,.int .i64 r.v.cw,.int .i64 r.v.co,.slice r.v.mA r.v.mn r.v.mc,.slice r.v.pA r.v.pn r.v.pc,.int .i64 r.v.here,.slice r.v.dA r.v.dn r.v.dc,.slice r.v.rA r.v.rn r.v.rc,.slice r.v.fA r.v.fn r.v.fc,.slice r.v.wA r.v.wn r.v.wc,.int .i64 r.v.last,.slice r.v.oA r.v.on r.v.oc,.slice r.v.qA r.v.qn r.v.qc,.bool r.v.qo,.slice r.v.eA r.v.en r.v.ec,.int .i64 r.v.free,.int .i64 r.v.next,.int .i64 r.v.arg,.int .i64 r.v.self,.int .i64 r.v.now,.slice r.v.hA r.v.hn r.v.hc,.int .i64 r.ip,.int .i64 r.wv,.bool r.dob,.int .i64 r.fu]:=wk_ext_r r e ▸ World.rangeAt_of_block h 0 27
theorem wpList_rload {ops : Array Oper} {rest : List Oper} {o : Oper} {a : Act} {Q : Exit → Act → World → Prop} {w : World} (hw : Region.wanted o (yielded ops a.tmps) = true) (x : Operand) (ho : o.op = .load 55 x)
    (b : Nat) (r : RnK) (hx : a.eval x = .pointer (some ⟨b,0,none⟩)) (hb : RBox w b r) (h : wpList Tryz.prog ops Q rest (a.put o.dst (rnV r)) w) : wpList Tryz.prog ops Q (o :: rest) a w :=
  wpList_step fun K hK => by
    rw [if_pos hw];exact wp_load_row 55 x ho b hx _ _ _ _ hb Tryz.underlying55 rfl run_info (hK _ _ h)
theorem wpList_wkrload {ops : Array Oper} {rest : List Oper} {o : Oper} {a : Act} {Q : Exit → Act → World → Prop} {w : World} (hw : Region.wanted o (yielded ops a.tmps) = true) (x : Operand) (ho : o.op = .load 55 x)
    (b : Nat) (r : RnK) (e : Value) (hx : a.eval x = .pointer (some ⟨b,0,none⟩)) (hb : WkBox w b r e) (h : wpList Tryz.prog ops Q rest (a.put o.dst (rnV r)) w) : wpList Tryz.prog ops Q (o :: rest) a w :=
  wpList_step fun K hK => by
    rw [if_pos hw];exact wp_load_mid 55 x ho b 0 hx _ _ hb.range_r Tryz.underlying55 rfl run_info (hK _ _ h)
theorem wpList_rstore {ops : Array Oper} {rest : List Oper} {o : Oper} {a : Act} {Q : Exit → Act → World → Prop} {w : World} (hw : Region.wanted o (yielded ops a.tmps) = true) (x y : Operand) (ho : o.op = .store 55 x y)
    (b : Nat) (j r : RnK) (hx : a.eval x = .pointer (some ⟨b,0,none⟩)) (hy : a.eval y = rnV r) (hb : RBox w b j) (h : wpList Tryz.prog ops Q rest (a.put o.dst undef) (w.setRow b (rnC r))) : wpList Tryz.prog ops Q (o :: rest) a w :=
  wpList_step fun K hK => by
    rw [if_pos hw];exact wp_store_row 55 x y ho b (rnC r) hx hy _ _ hb run_info rfl (run_one9 r) (hK _ _ h)
theorem wpList_wkstore {ops : Array Oper} {rest : List Oper} {o : Oper} {a : Act} {Q : Exit → Act → World → Prop} {w : World} (hw : Region.wanted o (yielded ops a.tmps) = true) (x y : Operand) (ho : o.op = .store 95 x y)
    (b : Nat) (j r : RnK) (e f : Value) (h1 : f.oneCell' = true) (hx : a.eval x = .pointer (some ⟨b,0,none⟩)) (hy : a.eval y = wkV r f) (hb : WkBox w b j e) (h : wpList Tryz.prog ops Q rest (a.put o.dst undef) (w.setRow b (wkC r f))) : wpList Tryz.prog ops Q (o :: rest) a w :=
  wpList_step fun K hK => by
    rw [if_pos hw];exact wp_store_row 95 x y ho b (wkC r f) hx hy _ _ hb work_info rfl (by have:=run_one9 r; simp [Value.oneCell'] at this ⊢; exact h1) (hK _ _ h)
end Go.Proofs.YtcmldhjicjmmgaaGreatDoor
