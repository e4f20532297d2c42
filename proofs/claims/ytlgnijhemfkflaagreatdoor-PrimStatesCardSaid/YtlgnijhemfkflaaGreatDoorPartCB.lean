/- Part 54. -/
import Derived.Test.YtlgnijhemfkflaaGreatDoorTie
import Derived.Test.YtlgnijhemfkflaaGreatDoorCards
import Derived.Test.YtlgnijhemfkflaaGreatDoorPartAP
set_option linter.unusedVariables false
set_option linter.unusedSimpArgs false
set_option maxRecDepth 100000
set_option maxHeartbeats 4000000

namespace Go.Proofs.YtlgnijhemfkflaaGreatDoor.primStates

theorem c_h1 : (Rows.primStatesRow.wf (OpenSpec.ofChange Rows.primStatesSpec)) = true:=by kernel_rfl
theorem c_h4 : (Tryz.f10.params.all (Tryz.pinned.checked.prog.readableRec ·)) = true:=by kernel_rfl
theorem c_h5 : (namedTie Tryz.pinned.checked.prog Rows.primStatesRow.named Rows.primStatesSpec.vars) = true:=by kernel_rfl
theorem c_h6 : ((Rows.primStatesRow.stops == [])) = true:=by kernel_rfl
theorem c_h8 : ((Rows.primStatesRow.knobs == [])) = true:=by kernel_rfl
theorem c_h10 : ((Rows.primStatesRow.inPlace == Tryz.pinned.checked.prog.inPlace 10)) = true:=by kernel_rfl
theorem c_h11 : ((Rows.primStatesRow.unfollowed == Tryz.pinned.checked.prog.unfollowed 10)) = true:=by kernel_rfl
theorem c_h12 : ((Rows.primStatesRow.recurses == Tryz.pinned.checked.prog.recurses 10)) = true:=by kernel_rfl
theorem c_h13 : ((Rows.primStatesRow.named == Tryz.pinned.checked.prog.varsNamed 10)) = true:=by kernel_rfl
theorem c_h14 : ((Rows.primStatesRow.maps == (Tryz.f10.params.toList ++ Rows.primStatesSpec.plain.varTypes Tryz.pinned.checked.prog).any (Tryz.pinned.checked.prog.mapsRec ·))) = true:=by kernel_rfl
theorem c_h15 : ((Rows.primStatesRow.ifaces == (Tryz.f10.params.toList ++ Rows.primStatesSpec.plain.varTypes Tryz.pinned.checked.prog).any (Tryz.pinned.checked.prog.ifacesRec ·))) = true:=by kernel_rfl
theorem c_h16 : ((Rows.primStatesRow.mapsOut == Tryz.pinned.checked.prog.mapsAmong Tryz.f10.resultTypes.toList)) = true:=by kernel_rfl
theorem c_h17 : ((Rows.primStatesRow.loops == (Tryz.f10.params.toList ++ Rows.primStatesSpec.plain.varTypes Tryz.pinned.checked.prog).any (Tryz.pinned.checked.prog.loopsFrom ·))) = true:=by kernel_rfl
theorem c_h18 : ((Rows.primStatesRow.wideKeys == (Tryz.f10.params.toList ++ Rows.primStatesSpec.plain.varTypes Tryz.pinned.checked.prog ++ Tryz.f10.resultTypes.toList).any (Tryz.pinned.checked.prog.wideKeysFrom ·))) = true:=by kernel_rfl
theorem c_h19 : (Rows.primStatesSpec.vars.all (Tryz.pinned.checked.prog.varReadable ·)) = true:=by kernel_rfl
theorem c_h20 : (Tryz.f10.resultTypes.all (fun t => Tryz.pinned.checked.prog.readableRec t && decide (t < Tryz.pinned.checked.prog.types.size))) = true:=by kernel_rfl
theorem c_h21 : ((Rows.primStatesRow.ifacesOut == Tryz.f10.resultTypes.toList.any (Tryz.pinned.checked.prog.ifacesRec ·))) = true:=by kernel_rfl
theorem c_h22 : ((Rows.primStatesRow.loopsOut == Tryz.f10.resultTypes.toList.any (Tryz.pinned.checked.prog.loopsFrom ·))) = true:=by kernel_rfl
theorem c_h23 : ((Rows.primStatesRow.plainKeys == Tryz.pinned.checked.prog.plainKeys)) = true:=by kernel_rfl
theorem c_h24 : (Rows.primStatesRow.shortTexts.isNone) = true:=by kernel_rfl
theorem c_h27 : ((Rows.primStatesRow.lifted == Tryz.pinned.checked.prog.liftsFinal)) = true:=by kernel_rfl
theorem c_h28 : ((Tryz.pinned.checked.prog.make == some Rows.primStatesRow.make)) = true:=by kernel_rfl
theorem c_h29 : ((Rows.primStatesRow.kinds == (if Rows.primStatesRow.domain.isEmpty then [] else Tryz.f10.params.toList.map fun t => match Tryz.pinned.checked.prog.underlying t with | some (.int k) => some k | _ => none))) = true:=by kernel_rfl
theorem c_h30 : ((Rows.primStatesRow.pinned == Rows.primStatesRow.pinnedBy)) = true:=by kernel_rfl
theorem c_h31 : ((Rows.primStatesRow.veiled == (Tryz.f10.params.toList ++ Rows.primStatesSpec.plain.varTypes Tryz.pinned.checked.prog ++ Tryz.f10.resultTypes.toList).any (Tryz.pinned.checked.prog.veiledRec ·))) = true:=by kernel_rfl
theorem c_h32 : (Rows.primStatesRow.veiledFits Tryz.pinned.checked.prog Tryz.f10.params.toList (Tryz.f10.params.toList ++ Rows.primStatesSpec.plain.varTypes Tryz.pinned.checked.prog ++ Tryz.f10.resultTypes.toList)) = true:=by kernel_rfl
theorem named_ : Tryz.pinned.checked.prog.funcNamed Rows.primStatesRow.func = some 10:=by kernel_rfl
theorem there_ : Tryz.pinned.checked.prog.funcs[10]? = some Tryz.f10:=Tryz.func10
theorem inst_ : Tryz.f10.isInstance Tryz.pinned.checked.prog Rows.primStatesRow.origin Rows.primStatesRow.targs:=of_decide_eq_true (by kernel_rfl)
theorem wrap_ : Tryz.f10.isWrapper Tryz.pinned.checked.prog Rows.primStatesRow.wrapper Rows.primStatesRow.mainSum:=by unfold Func.isWrapper; first | (rw [if_pos (by decide +kernel)]; kernel_rfl) | (rw [if_neg (by decide +kernel)]; exact ⟨rfl,rfl⟩)
end Go.Proofs.YtlgnijhemfkflaaGreatDoor.primStates
