/- Part 48. -/
import Derived.Test.YtlgnijhemfkflaaGreatDoorTie
import Derived.Test.YtlgnijhemfkflaaGreatDoorCards
import Derived.Test.YtlgnijhemfkflaaGreatDoorPartAP
set_option linter.unusedVariables false
set_option linter.unusedSimpArgs false
set_option maxRecDepth 100000
set_option maxHeartbeats 4000000

namespace Go.Proofs.YtlgnijhemfkflaaGreatDoor.primHolds

theorem c_h1 : (Rows.primHoldsRow.wf (OpenSpec.ofChange Rows.primHoldsSpec)) = true:=by kernel_rfl
theorem c_h4 : (Tryz.f7.params.all (Tryz.pinned.checked.prog.readableRec ·)) = true:=by kernel_rfl
theorem c_h5 : (namedTie Tryz.pinned.checked.prog Rows.primHoldsRow.named Rows.primHoldsSpec.vars) = true:=by kernel_rfl
theorem c_h6 : ((Rows.primHoldsRow.stops == [])) = true:=by kernel_rfl
theorem c_h8 : ((Rows.primHoldsRow.knobs == [])) = true:=by kernel_rfl
theorem c_h10 : ((Rows.primHoldsRow.inPlace == Tryz.pinned.checked.prog.inPlace 7)) = true:=by kernel_rfl
theorem c_h11 : ((Rows.primHoldsRow.unfollowed == Tryz.pinned.checked.prog.unfollowed 7)) = true:=by kernel_rfl
theorem c_h12 : ((Rows.primHoldsRow.recurses == Tryz.pinned.checked.prog.recurses 7)) = true:=by kernel_rfl
theorem c_h13 : ((Rows.primHoldsRow.named == Tryz.pinned.checked.prog.varsNamed 7)) = true:=by kernel_rfl
theorem c_h14 : ((Rows.primHoldsRow.maps == (Tryz.f7.params.toList ++ Rows.primHoldsSpec.plain.varTypes Tryz.pinned.checked.prog).any (Tryz.pinned.checked.prog.mapsRec ·))) = true:=by kernel_rfl
theorem c_h15 : ((Rows.primHoldsRow.ifaces == (Tryz.f7.params.toList ++ Rows.primHoldsSpec.plain.varTypes Tryz.pinned.checked.prog).any (Tryz.pinned.checked.prog.ifacesRec ·))) = true:=by kernel_rfl
theorem c_h16 : ((Rows.primHoldsRow.mapsOut == Tryz.pinned.checked.prog.mapsAmong Tryz.f7.resultTypes.toList)) = true:=by kernel_rfl
theorem c_h17 : ((Rows.primHoldsRow.loops == (Tryz.f7.params.toList ++ Rows.primHoldsSpec.plain.varTypes Tryz.pinned.checked.prog).any (Tryz.pinned.checked.prog.loopsFrom ·))) = true:=by kernel_rfl
theorem c_h18 : ((Rows.primHoldsRow.wideKeys == (Tryz.f7.params.toList ++ Rows.primHoldsSpec.plain.varTypes Tryz.pinned.checked.prog ++ Tryz.f7.resultTypes.toList).any (Tryz.pinned.checked.prog.wideKeysFrom ·))) = true:=by kernel_rfl
theorem c_h19 : (Rows.primHoldsSpec.vars.all (Tryz.pinned.checked.prog.varReadable ·)) = true:=by kernel_rfl
theorem c_h20 : (Tryz.f7.resultTypes.all (fun t => Tryz.pinned.checked.prog.readableRec t && decide (t < Tryz.pinned.checked.prog.types.size))) = true:=by kernel_rfl
theorem c_h21 : ((Rows.primHoldsRow.ifacesOut == Tryz.f7.resultTypes.toList.any (Tryz.pinned.checked.prog.ifacesRec ·))) = true:=by kernel_rfl
theorem c_h22 : ((Rows.primHoldsRow.loopsOut == Tryz.f7.resultTypes.toList.any (Tryz.pinned.checked.prog.loopsFrom ·))) = true:=by kernel_rfl
theorem c_h23 : ((Rows.primHoldsRow.plainKeys == Tryz.pinned.checked.prog.plainKeys)) = true:=by kernel_rfl
theorem c_h24 : (Rows.primHoldsRow.shortTexts.isNone) = true:=by kernel_rfl
theorem c_h27 : ((Rows.primHoldsRow.lifted == Tryz.pinned.checked.prog.liftsFinal)) = true:=by kernel_rfl
theorem c_h28 : ((Tryz.pinned.checked.prog.make == some Rows.primHoldsRow.make)) = true:=by kernel_rfl
theorem c_h29 : ((Rows.primHoldsRow.kinds == (if Rows.primHoldsRow.domain.isEmpty then [] else Tryz.f7.params.toList.map fun t => match Tryz.pinned.checked.prog.underlying t with | some (.int k) => some k | _ => none))) = true:=by kernel_rfl
theorem c_h30 : ((Rows.primHoldsRow.pinned == Rows.primHoldsRow.pinnedBy)) = true:=by kernel_rfl
theorem c_h31 : ((Rows.primHoldsRow.veiled == (Tryz.f7.params.toList ++ Rows.primHoldsSpec.plain.varTypes Tryz.pinned.checked.prog ++ Tryz.f7.resultTypes.toList).any (Tryz.pinned.checked.prog.veiledRec ·))) = true:=by kernel_rfl
theorem c_h32 : (Rows.primHoldsRow.veiledFits Tryz.pinned.checked.prog Tryz.f7.params.toList (Tryz.f7.params.toList ++ Rows.primHoldsSpec.plain.varTypes Tryz.pinned.checked.prog ++ Tryz.f7.resultTypes.toList)) = true:=by kernel_rfl
theorem named_ : Tryz.pinned.checked.prog.funcNamed Rows.primHoldsRow.func = some 7:=by kernel_rfl
theorem there_ : Tryz.pinned.checked.prog.funcs[7]? = some Tryz.f7:=Tryz.func7
theorem inst_ : Tryz.f7.isInstance Tryz.pinned.checked.prog Rows.primHoldsRow.origin Rows.primHoldsRow.targs:=of_decide_eq_true (by kernel_rfl)
theorem wrap_ : Tryz.f7.isWrapper Tryz.pinned.checked.prog Rows.primHoldsRow.wrapper Rows.primHoldsRow.mainSum:=by unfold Func.isWrapper; first | (rw [if_pos (by decide +kernel)]; kernel_rfl) | (rw [if_neg (by decide +kernel)]; exact ⟨rfl,rfl⟩)
end Go.Proofs.YtlgnijhemfkflaaGreatDoor.primHolds
