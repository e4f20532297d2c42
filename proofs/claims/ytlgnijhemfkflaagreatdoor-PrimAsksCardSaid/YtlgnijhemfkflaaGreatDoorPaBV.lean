/- Part 48. -/
import Derived.Test.YtlgnijhemfkflaaGreatDoorTie
import Derived.Test.YtlgnijhemfkflaaGreatDoorCards
import Derived.Test.YtlgnijhemfkflaaGreatDoorPaAO
set_option linter.unusedVariables false
set_option linter.unusedSimpArgs false
set_option maxRecDepth 100000
set_option maxHeartbeats 4000000

namespace Go.Proofs.YtlgnijhemfkflaaGreatDoor.primAsks

theorem c_h1 : (Rows.primAsksRow.wf (OpenSpec.ofChange Rows.primAsksSpec)) = true:=by kernel_rfl
theorem c_h4 : (Tryz.f9.params.all (Tryz.pinned.checked.prog.readableRec ·)) = true:=by kernel_rfl
theorem c_h5 : (namedTie Tryz.pinned.checked.prog Rows.primAsksRow.named Rows.primAsksSpec.vars) = true:=by kernel_rfl
theorem c_h6 : ((Rows.primAsksRow.stops == [])) = true:=by kernel_rfl
theorem c_h8 : ((Rows.primAsksRow.knobs == [])) = true:=by kernel_rfl
theorem c_h10 : ((Rows.primAsksRow.inPlace == Tryz.pinned.checked.prog.inPlace 9)) = true:=by kernel_rfl
theorem c_h11 : ((Rows.primAsksRow.unfollowed == Tryz.pinned.checked.prog.unfollowed 9)) = true:=by kernel_rfl
theorem c_h12 : ((Rows.primAsksRow.recurses == Tryz.pinned.checked.prog.recurses 9)) = true:=by kernel_rfl
theorem c_h13 : ((Rows.primAsksRow.named == Tryz.pinned.checked.prog.varsNamed 9)) = true:=by kernel_rfl
theorem c_h14 : ((Rows.primAsksRow.maps == (Tryz.f9.params.toList ++ Rows.primAsksSpec.plain.varTypes Tryz.pinned.checked.prog).any (Tryz.pinned.checked.prog.mapsRec ·))) = true:=by kernel_rfl
theorem c_h15 : ((Rows.primAsksRow.ifaces == (Tryz.f9.params.toList ++ Rows.primAsksSpec.plain.varTypes Tryz.pinned.checked.prog).any (Tryz.pinned.checked.prog.ifacesRec ·))) = true:=by kernel_rfl
theorem c_h16 : ((Rows.primAsksRow.mapsOut == Tryz.pinned.checked.prog.mapsAmong Tryz.f9.resultTypes.toList)) = true:=by kernel_rfl
theorem c_h17 : ((Rows.primAsksRow.loops == (Tryz.f9.params.toList ++ Rows.primAsksSpec.plain.varTypes Tryz.pinned.checked.prog).any (Tryz.pinned.checked.prog.loopsFrom ·))) = true:=by kernel_rfl
theorem c_h18 : ((Rows.primAsksRow.wideKeys == (Tryz.f9.params.toList ++ Rows.primAsksSpec.plain.varTypes Tryz.pinned.checked.prog ++ Tryz.f9.resultTypes.toList).any (Tryz.pinned.checked.prog.wideKeysFrom ·))) = true:=by kernel_rfl
theorem c_h19 : (Rows.primAsksSpec.vars.all (Tryz.pinned.checked.prog.varReadable ·)) = true:=by kernel_rfl
theorem c_h20 : (Tryz.f9.resultTypes.all (fun t => Tryz.pinned.checked.prog.readableRec t && decide (t < Tryz.pinned.checked.prog.types.size))) = true:=by kernel_rfl
theorem c_h21 : ((Rows.primAsksRow.ifacesOut == Tryz.f9.resultTypes.toList.any (Tryz.pinned.checked.prog.ifacesRec ·))) = true:=by kernel_rfl
theorem c_h22 : ((Rows.primAsksRow.loopsOut == Tryz.f9.resultTypes.toList.any (Tryz.pinned.checked.prog.loopsFrom ·))) = true:=by kernel_rfl
theorem c_h23 : ((Rows.primAsksRow.plainKeys == Tryz.pinned.checked.prog.plainKeys)) = true:=by kernel_rfl
theorem c_h24 : (Rows.primAsksRow.shortTexts.isNone) = true:=by kernel_rfl
theorem c_h27 : ((Rows.primAsksRow.lifted == Tryz.pinned.checked.prog.liftsFinal)) = true:=by kernel_rfl
theorem c_h28 : ((Tryz.pinned.checked.prog.make == some Rows.primAsksRow.make)) = true:=by kernel_rfl
theorem c_h29 : ((Rows.primAsksRow.kinds == (if Rows.primAsksRow.domain.isEmpty then [] else Tryz.f9.params.toList.map fun t => match Tryz.pinned.checked.prog.underlying t with | some (.int k) => some k | _ => none))) = true:=by kernel_rfl
theorem c_h30 : ((Rows.primAsksRow.pinned == Rows.primAsksRow.pinnedBy)) = true:=by kernel_rfl
theorem c_h31 : ((Rows.primAsksRow.veiled == (Tryz.f9.params.toList ++ Rows.primAsksSpec.plain.varTypes Tryz.pinned.checked.prog ++ Tryz.f9.resultTypes.toList).any (Tryz.pinned.checked.prog.veiledRec ·))) = true:=by kernel_rfl
theorem c_h32 : (Rows.primAsksRow.veiledFits Tryz.pinned.checked.prog Tryz.f9.params.toList (Tryz.f9.params.toList ++ Rows.primAsksSpec.plain.varTypes Tryz.pinned.checked.prog ++ Tryz.f9.resultTypes.toList)) = true:=by kernel_rfl
theorem named_ : Tryz.pinned.checked.prog.funcNamed Rows.primAsksRow.func = some 9:=by kernel_rfl
theorem there_ : Tryz.pinned.checked.prog.funcs[9]? = some Tryz.f9:=Tryz.func9
theorem inst_ : Tryz.f9.isInstance Tryz.pinned.checked.prog Rows.primAsksRow.origin Rows.primAsksRow.targs:=of_decide_eq_true (by kernel_rfl)
theorem wrap_ : Tryz.f9.isWrapper Tryz.pinned.checked.prog Rows.primAsksRow.wrapper Rows.primAsksRow.mainSum:=by unfold Func.isWrapper; first | (rw [if_pos (by decide +kernel)]; kernel_rfl) | (rw [if_neg (by decide +kernel)]; exact ⟨rfl,rfl⟩)
end Go.Proofs.YtlgnijhemfkflaaGreatDoor.primAsks
