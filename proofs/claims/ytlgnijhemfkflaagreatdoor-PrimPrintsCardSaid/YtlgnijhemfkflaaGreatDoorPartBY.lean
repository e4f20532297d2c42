/- Part 51. -/
import Derived.Test.YtlgnijhemfkflaaGreatDoorTie
import Derived.Test.YtlgnijhemfkflaaGreatDoorCards
import Derived.Test.YtlgnijhemfkflaaGreatDoorPartAP
set_option linter.unusedVariables false
set_option linter.unusedSimpArgs false
set_option maxRecDepth 100000
set_option maxHeartbeats 4000000

namespace Go.Proofs.YtlgnijhemfkflaaGreatDoor.primPrints

theorem c_h1 : (Rows.primPrintsRow.wf (OpenSpec.ofChange Rows.primPrintsSpec)) = true:=by kernel_rfl
theorem c_h4 : (Tryz.f8.params.all (Tryz.pinned.checked.prog.readableRec ·)) = true:=by kernel_rfl
theorem c_h5 : (namedTie Tryz.pinned.checked.prog Rows.primPrintsRow.named Rows.primPrintsSpec.vars) = true:=by kernel_rfl
theorem c_h6 : ((Rows.primPrintsRow.stops == [])) = true:=by kernel_rfl
theorem c_h8 : ((Rows.primPrintsRow.knobs == [])) = true:=by kernel_rfl
theorem c_h10 : ((Rows.primPrintsRow.inPlace == Tryz.pinned.checked.prog.inPlace 8)) = true:=by kernel_rfl
theorem c_h11 : ((Rows.primPrintsRow.unfollowed == Tryz.pinned.checked.prog.unfollowed 8)) = true:=by kernel_rfl
theorem c_h12 : ((Rows.primPrintsRow.recurses == Tryz.pinned.checked.prog.recurses 8)) = true:=by kernel_rfl
theorem c_h13 : ((Rows.primPrintsRow.named == Tryz.pinned.checked.prog.varsNamed 8)) = true:=by kernel_rfl
theorem c_h14 : ((Rows.primPrintsRow.maps == (Tryz.f8.params.toList ++ Rows.primPrintsSpec.plain.varTypes Tryz.pinned.checked.prog).any (Tryz.pinned.checked.prog.mapsRec ·))) = true:=by kernel_rfl
theorem c_h15 : ((Rows.primPrintsRow.ifaces == (Tryz.f8.params.toList ++ Rows.primPrintsSpec.plain.varTypes Tryz.pinned.checked.prog).any (Tryz.pinned.checked.prog.ifacesRec ·))) = true:=by kernel_rfl
theorem c_h16 : ((Rows.primPrintsRow.mapsOut == Tryz.pinned.checked.prog.mapsAmong Tryz.f8.resultTypes.toList)) = true:=by kernel_rfl
theorem c_h17 : ((Rows.primPrintsRow.loops == (Tryz.f8.params.toList ++ Rows.primPrintsSpec.plain.varTypes Tryz.pinned.checked.prog).any (Tryz.pinned.checked.prog.loopsFrom ·))) = true:=by kernel_rfl
theorem c_h18 : ((Rows.primPrintsRow.wideKeys == (Tryz.f8.params.toList ++ Rows.primPrintsSpec.plain.varTypes Tryz.pinned.checked.prog ++ Tryz.f8.resultTypes.toList).any (Tryz.pinned.checked.prog.wideKeysFrom ·))) = true:=by kernel_rfl
theorem c_h19 : (Rows.primPrintsSpec.vars.all (Tryz.pinned.checked.prog.varReadable ·)) = true:=by kernel_rfl
theorem c_h20 : (Tryz.f8.resultTypes.all (fun t => Tryz.pinned.checked.prog.readableRec t && decide (t < Tryz.pinned.checked.prog.types.size))) = true:=by kernel_rfl
theorem c_h21 : ((Rows.primPrintsRow.ifacesOut == Tryz.f8.resultTypes.toList.any (Tryz.pinned.checked.prog.ifacesRec ·))) = true:=by kernel_rfl
theorem c_h22 : ((Rows.primPrintsRow.loopsOut == Tryz.f8.resultTypes.toList.any (Tryz.pinned.checked.prog.loopsFrom ·))) = true:=by kernel_rfl
theorem c_h23 : ((Rows.primPrintsRow.plainKeys == Tryz.pinned.checked.prog.plainKeys)) = true:=by kernel_rfl
theorem c_h24 : (Rows.primPrintsRow.shortTexts.isNone) = true:=by kernel_rfl
theorem c_h27 : ((Rows.primPrintsRow.lifted == Tryz.pinned.checked.prog.liftsFinal)) = true:=by kernel_rfl
theorem c_h28 : ((Tryz.pinned.checked.prog.make == some Rows.primPrintsRow.make)) = true:=by kernel_rfl
theorem c_h29 : ((Rows.primPrintsRow.kinds == (if Rows.primPrintsRow.domain.isEmpty then [] else Tryz.f8.params.toList.map fun t => match Tryz.pinned.checked.prog.underlying t with | some (.int k) => some k | _ => none))) = true:=by kernel_rfl
theorem c_h30 : ((Rows.primPrintsRow.pinned == Rows.primPrintsRow.pinnedBy)) = true:=by kernel_rfl
theorem c_h31 : ((Rows.primPrintsRow.veiled == (Tryz.f8.params.toList ++ Rows.primPrintsSpec.plain.varTypes Tryz.pinned.checked.prog ++ Tryz.f8.resultTypes.toList).any (Tryz.pinned.checked.prog.veiledRec ·))) = true:=by kernel_rfl
theorem c_h32 : (Rows.primPrintsRow.veiledFits Tryz.pinned.checked.prog Tryz.f8.params.toList (Tryz.f8.params.toList ++ Rows.primPrintsSpec.plain.varTypes Tryz.pinned.checked.prog ++ Tryz.f8.resultTypes.toList)) = true:=by kernel_rfl
theorem named_ : Tryz.pinned.checked.prog.funcNamed Rows.primPrintsRow.func = some 8:=by kernel_rfl
theorem there_ : Tryz.pinned.checked.prog.funcs[8]? = some Tryz.f8:=Tryz.func8
theorem inst_ : Tryz.f8.isInstance Tryz.pinned.checked.prog Rows.primPrintsRow.origin Rows.primPrintsRow.targs:=of_decide_eq_true (by kernel_rfl)
theorem wrap_ : Tryz.f8.isWrapper Tryz.pinned.checked.prog Rows.primPrintsRow.wrapper Rows.primPrintsRow.mainSum:=by unfold Func.isWrapper; first | (rw [if_pos (by decide +kernel)]; kernel_rfl) | (rw [if_neg (by decide +kernel)]; exact ⟨rfl,rfl⟩)
end Go.Proofs.YtlgnijhemfkflaaGreatDoor.primPrints
