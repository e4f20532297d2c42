/- Part 46. -/
import Derived.Test.YtlgnijhemfkflaaGreatDoorPaBS
set_option linter.unusedVariables false
set_option linter.unusedSimpArgs false
set_option maxRecDepth 100000
set_option maxHeartbeats 4000000

namespace Go.Proofs.YtlgnijhemfkflaaGreatDoor
open Go.ChangeShapes Go.WideShapes Go.ChangeAt Go.RowKit Go.Joins Go.Deep


def q4R (q : Q4) : Prop:=cellR q.a ∧ cellR q.b ∧ cellR q.c ∧ cellR q.d
section
variable {H : Type} {enc : TypeId × Value → H} {w : World}
theorem open_ask {fuel : Nat} {cs : List Value} {x : DataW H × List MemPlace} (h : DataW.trod enc Tryz.prog w 0 (fun _ => true) true fuel 59 cs = some x) : ∃ q : {q : Q4 // q4R q},cs = q4E q.1:=by
  obtain ⟨ys,n,_,_,hlen,hyl,hf⟩:=DataW.trod_array Tryz.underlying59 h;have h2 : cs.length = 4:=hlen.trans (by kernel_rfl);have hy2 : ys.length = 4:=hyl;have hC : Tryz.prog.cellsOf 3 = 1:=by kernel_rfl
  rw [hC] at hf
  match cs,h2 with
  | [c0,c1,c2,c3],_ =>
    have f0 : DataW.trod enc Tryz.prog w 0 (fun _ => true) true n 3 (([c0,c1,c2,c3].drop 0).take 1) = ys[0]?:=hf 0 (by omega);rw [show ys[0]? = some (ys[0]'(by omega)) from List.getElem?_eq_getElem _] at f0;have f1 : DataW.trod enc Tryz.prog w 0 (fun _ => true) true n 3 (([c0,c1,c2,c3].drop 1).take 1) = ys[1]?:=hf 1 (by omega);rw [show ys[1]? = some (ys[1]'(by omega)) from List.getElem?_eq_getElem _] at f1;have f2 : DataW.trod enc Tryz.prog w 0 (fun _ => true) true n 3 (([c0,c1,c2,c3].drop 2).take 1) = ys[2]?:=hf 2 (by omega);rw [show ys[2]? = some (ys[2]'(by omega)) from List.getElem?_eq_getElem _] at f2;have f3 : DataW.trod enc Tryz.prog w 0 (fun _ => true) true n 3 (([c0,c1,c2,c3].drop 3).take 1) = ys[3]?:=hf 3 (by omega);rw [show ys[3]? = some (ys[3]'(by omega)) from List.getElem?_eq_getElem _] at f3;obtain ⟨p0,e0,_,w0⟩:=DataW.trod_int Tryz.underlying3 f0;have e0' : c0 = .int .i64 p0:=by simpa using e0
    subst e0';obtain ⟨p1,e1,_,w1⟩:=DataW.trod_int Tryz.underlying3 f1;have e1' : c1 = .int .i64 p1:=by simpa using e1
    subst e1';obtain ⟨p2,e2,_,w2⟩:=DataW.trod_int Tryz.underlying3 f2;have e2' : c2 = .int .i64 p2:=by simpa using e2
    subst e2';obtain ⟨p3,e3,_,w3⟩:=DataW.trod_int Tryz.underlying3 f3;have e3' : c3 = .int .i64 p3:=by simpa using e3
    subst e3';exact ⟨⟨⟨p0,p1,p2,p3⟩,wf_i64 w0,wf_i64 w1,wf_i64 w2,wf_i64 w3⟩,rfl⟩
theorem open_asks {fuel : Nat} {v : Value} {x : DataW H × List MemPlace} (h : DataW.trod enc Tryz.prog w 0 (fun _ => true) true fuel 58 [v] = some x) : ∃ A n c l,v = .slice A n c ∧ Rws q4E w (.slice A n c) l ∧ ∀ q ∈ l,q4R q:=by
  obtain ⟨A,n,c,l,e,A',c',e2,h1,h2,h3⟩:=open_rws (encd:=fun q : {q : Q4 // q4R q} => q4E q.1) (s:=4) (fun _ => rfl) (by decide) Tryz.underlying58 (by kernel_rfl) (fun h => open_ask h) h;refine ⟨A,n,c,l.map (·.1),e,⟨A',c',by rw [List.length_map]; exact e2,by rw [List.length_map]; exact h1,h2,by rw [List.flatMap_map]; exact h3⟩,fun q hq => ?_⟩;obtain ⟨q',_,rfl⟩:=List.mem_map.1 hq;exact q'.2
end
end Go.Proofs.YtlgnijhemfkflaaGreatDoor
