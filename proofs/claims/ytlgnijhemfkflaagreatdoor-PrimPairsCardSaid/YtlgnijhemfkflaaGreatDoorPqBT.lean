/- Part 46. -/
import Derived.Test.YtlgnijhemfkflaaGreatDoorTie
import Derived.Test.YtlgnijhemfkflaaGreatDoorCards
import Derived.Test.YtlgnijhemfkflaaGreatDoorPqAM
set_option linter.unusedVariables false
set_option linter.unusedSimpArgs false
set_option maxRecDepth 100000
set_option maxHeartbeats 4000000

namespace Go.Proofs.YtlgnijhemfkflaaGreatDoor.primPairs

theorem c_h1 : (Rows.primPairsRow.wf (OpenSpec.ofChange Rows.primPairsSpec)) = true:=by kernel_rfl
theorem c_h4 : (Tryz.f11.params.all (Tryz.pinned.checked.prog.readableRec ·)) = true:=by kernel_rfl
theorem c_h5 : (namedTie Tryz.pinned.checked.prog Rows.primPairsRow.named Rows.primPairsSpec.vars) = true:=by kernel_rfl
theorem c_h6 : ((Rows.primPairsRow.stops == [])) = true:=by kernel_rfl
theorem c_h8 : ((Rows.primPairsRow.knobs == [])) = true:=by kernel_rfl
theorem c_h10 : ((Rows.primPairsRow.inPlace == Tryz.pinned.checked.prog.inPlace 11)) = true:=by kernel_rfl
theorem c_h11 : ((Rows.primPairsRow.unfollowed == Tryz.pinned.checked.prog.unfollowed 11)) = true:=by kernel_rfl
theorem c_h12 : ((Rows.primPairsRow.recurses == Tryz.pinned.checked.prog.recurses 11)) = true:=by kernel_rfl
theorem c_h13 : ((Rows.primPairsRow.named == Tryz.pinned.checked.prog.varsNamed 11)) = true:=by kernel_rfl
theorem c_h14 : ((Rows.primPairsRow.maps == (Tryz.f11.params.toList ++ Rows.primPairsSpec.plain.varTypes Tryz.pinned.checked.prog).any (Tryz.pinned.checked.prog.mapsRec ·))) = true:=by kernel_rfl
theorem c_h15 : ((Rows.primPairsRow.ifaces == (Tryz.f11.params.toList ++ Rows.primPairsSpec.plain.varTypes Tryz.pinned.checked.prog).any (Tryz.pinned.checked.prog.ifacesRec ·))) = true:=by kernel_rfl
theorem c_h16 : ((Rows.primPairsRow.mapsOut == Tryz.pinned.checked.prog.mapsAmong Tryz.f11.resultTypes.toList)) = true:=by kernel_rfl
theorem c_h17 : ((Rows.primPairsRow.loops == (Tryz.f11.params.toList ++ Rows.primPairsSpec.plain.varTypes Tryz.pinned.checked.prog).any (Tryz.pinned.checked.prog.loopsFrom ·))) = true:=by kernel_rfl
theorem c_h18 : ((Rows.primPairsRow.wideKeys == (Tryz.f11.params.toList ++ Rows.primPairsSpec.plain.varTypes Tryz.pinned.checked.prog ++ Tryz.f11.resultTypes.toList).any (Tryz.pinned.checked.prog.wideKeysFrom ·))) = true:=by kernel_rfl
theorem c_h19 : (Rows.primPairsSpec.vars.all (Tryz.pinned.checked.prog.varReadable ·)) = true:=by kernel_rfl
theorem c_h20 : (Tryz.f11.resultTypes.all (fun t => Tryz.pinned.checked.prog.readableRec t && decide (t < Tryz.pinned.checked.prog.types.size))) = true:=by kernel_rfl
theorem c_h21 : ((Rows.primPairsRow.ifacesOut == Tryz.f11.resultTypes.toList.any (Tryz.pinned.checked.prog.ifacesRec ·))) = true:=by kernel_rfl
theorem c_h22 : ((Rows.primPairsRow.loopsOut == Tryz.f11.resultTypes.toList.any (Tryz.pinned.checked.prog.loopsFrom ·))) = true:=by kernel_rfl
theorem c_h23 : ((Rows.primPairsRow.plainKeys == Tryz.pinned.checked.prog.plainKeys)) = true:=by kernel_rfl
theorem c_h24 : (Rows.primPairsRow.shortTexts.isNone) = true:=by kernel_rfl
theorem c_h27 : ((Rows.primPairsRow.lifted == Tryz.pinned.checked.prog.liftsFinal)) = true:=by kernel_rfl
theorem c_h28 : ((Tryz.pinned.checked.prog.make == some Rows.primPairsRow.make)) = true:=by kernel_rfl
theorem c_h29 : ((Rows.primPairsRow.kinds == (if Rows.primPairsRow.domain.isEmpty then [] else Tryz.f11.params.toList.map fun t => match Tryz.pinned.checked.prog.underlying t with | some (.int k) => some k | _ => none))) = true:=by kernel_rfl
theorem c_h30 : ((Rows.primPairsRow.pinned == Rows.primPairsRow.pinnedBy)) = true:=by kernel_rfl
theorem c_h31 : ((Rows.primPairsRow.veiled == (Tryz.f11.params.toList ++ Rows.primPairsSpec.plain.varTypes Tryz.pinned.checked.prog ++ Tryz.f11.resultTypes.toList).any (Tryz.pinned.checked.prog.veiledRec ·))) = true:=by kernel_rfl
theorem c_h32 : (Rows.primPairsRow.veiledFits Tryz.pinned.checked.prog Tryz.f11.params.toList (Tryz.f11.params.toList ++ Rows.primPairsSpec.plain.varTypes Tryz.pinned.checked.prog ++ Tryz.f11.resultTypes.toList)) = true:=by kernel_rfl
theorem named_ : Tryz.pinned.checked.prog.funcNamed Rows.primPairsRow.func = some 11:=by kernel_rfl
theorem there_ : Tryz.pinned.checked.prog.funcs[11]? = some Tryz.f11:=Tryz.func11
theorem inst_ : Tryz.f11.isInstance Tryz.pinned.checked.prog Rows.primPairsRow.origin Rows.primPairsRow.targs:=of_decide_eq_true (by kernel_rfl)
theorem wrap_ : Tryz.f11.isWrapper Tryz.pinned.checked.prog Rows.primPairsRow.wrapper Rows.primPairsRow.mainSum:=by unfold Func.isWrapper; first | (rw [if_pos (by decide +kernel)]; kernel_rfl) | (rw [if_neg (by decide +kernel)]; exact ⟨rfl,rfl⟩)
end Go.Proofs.YtlgnijhemfkflaaGreatDoor.primPairs
