/- The map of flags: give, flags. -/
import Derived.Test.YtbighilgkmfemaaDoorVmCodeB
import Derived.Test.YtbighilgkmfemaaDoorVmNewM
import Derived.Maps.Own
import Derived.Maps.Views
namespace Go.Proofs.YtbighilgkmfemaaDoor
open Go.RowKit Go.Maps Go.WideMaps
set_option linter.unusedVariables false
set_option linter.unusedSimpArgs false

theorem sts_take {w : World} {A : Option Addr} {n c : Nat} {l : List (List UInt8)} (h : Sts w (.slice A n c) l) {k : Nat} (hk : k ≤ n) : Sts w (.slice A k c) (l.take k) := by
  have hl := h.len
  obtain ⟨A', c', e, h1, h2, h3⟩ := h
  injection e with e1 e2 e3
  subst e1 e3
  have hlk : (l.take k).length = k := by rw [List.length_take]; omega
  refine ⟨A, c, by rw [hlk], by omega, h2, ?_⟩
  rcases h3 with h3 | ⟨g, o, e, hg, hc⟩
  · left
    have := congrArg List.length h3
    rw [sts_len] at this
    have h0 : l = [] := List.eq_nil_of_length_eq_zero this
    subst h0
    simp [sts]
  · right
    refine ⟨g, o, e, hg, fun j v hv => hc j v ?_⟩
    have hj := (List.getElem?_eq_some_iff.1 hv).1
    rw [sts_len, hlk] at hj
    rw [← hv]
    unfold sts
    rw [List.getElem?_map, List.getElem?_map, List.getElem?_take_of_lt hj]
theorem slaw : Keyed Tryd.prog 9 := string_keyed Tryd.underlying9
theorem zero_int (w : World) : (zeroValue 3).run Tryd.prog w = .ok (.int .i64 0) w := by kernel_rfl
theorem key_of {s : List UInt8} (hs : s.length ≤ 65536) : keyOf Tryd.prog 9 (.string (strB s)) = some (.string s) := by
  have h := keyOf_string_mk (s := strB s) Tryd.underlying9 (by show s.length ≤ _; unfold maxLen; omega)
  have e : (strB s).data.toList = s := by simp [strB]
  rw [e] at h
  exact h
/-- A map of numbers that answers f. -/
def MapF (w : World) (b n : Nat) (D : DataW Unit) (f : List UInt8 → Int) : Prop := w.ownsMap Tryd.prog 9 (plainElem Tryd.prog 3) b n D ∧ IsMap D ∧ ∀ s, D.atKey (.string s) (.lit (.int .i64 0)) = .lit (.int .i64 (f s))
theorem MapF.kept {w w' : World} {b n : Nat} {D : DataW Unit} {f : List UInt8 → Int} (h : MapF w b n D f) (x : Below w.heap.size w w') : MapF w' b n D f :=
  ⟨h.1.kept (row := none) ⟨x.os, x.tape, x.output, x.size, fun k hk _ => x.block k hk⟩ (by simp), h.2⟩
theorem MapF.look {w : World} {b n : Nat} {D : DataW Unit} {f : List UInt8 → Int} (h : MapF w b n D f) {s : List UInt8} (hs : s.length ≤ 65536) : (Instr.lookup 103 (.map (some b)) (.string (strB s)) false).run Tryd.prog w = .ok (.int .i64 (f s)) w := by
  obtain ⟨c, hrun, hat, _⟩ := h.1.lookup_int slaw Tryd.underlying103 Tryd.underlying3 (zero_int w) (key_of hs)
  rw [h.2.2] at hat
  simp only [DataW.lit.injEq, Lit.int.injEq, true_and] at hat
  rw [hat]
  exact hrun
theorem mapf_made (w : World) : MapF (w.alloc (.map #[] 0)) w.heap.size 0 (.map []) (fun _ => 0) := ⟨World.ownsMap_made _ _ _ _, isMap_empty, fun s => rfl⟩
/-- What a name is given. -/
def giveF (f : List UInt8 → Int) (sum : Int) (ls : List (List UInt8)) (s : List UInt8) : Int := if s ∈ ls then sum else f s
theorem give_nil (f : List UInt8 → Int) (sum : Int) : giveF f sum [] = f := by funext s; simp [giveF]
theorem give_put {D : DataW Unit} {f : List UInt8 → Int} {sum : Int} {ls : List (List UInt8)} {x : List UInt8} (hD : IsMap D) (h : ∀ s, D.atKey (.string s) (.lit (.int .i64 0)) = .lit (.int .i64 (giveF f sum ls s))) :
    IsMap (D.put (.string x) (.lit (.int .i64 sum))) ∧ ∀ s, (D.put (.string x) (.lit (.int .i64 sum))).atKey (.string s) (.lit (.int .i64 0)) = .lit (.int .i64 (giveF f sum (ls ++ [x]) s)) := by
  refine ⟨?_, fun s => ?_⟩
  · obtain ⟨es, rfl⟩ := hD
    exact ⟨_, rfl⟩
  · by_cases e : s = x
    · subst e
      rw [atKey_put_same hD (by trivial)]
      simp [giveF]
    · rw [atKey_put_other (by intro h2; injection h2 with h2; exact e h2), h]
      simp [giveF, e]
set_option maxRecDepth 100000 in
set_option maxHeartbeats 4000000 in
theorem give_any (b n : Nat) (D : DataW Unit) (f : List UInt8 → Int) (sum : Int) (A : Option Addr) (m c : Nat) (ls : List (List UInt8)) (w : World) (HM : Hid (MapF w b n D f)) (HS : Hid (Sts w (.slice A m c) ls)) (hn : n ≤ 1000) (hm : m ≤ 1000) (hls : ∀ x ∈ ls, x.length ≤ 65536) (hsum : (Lit.int .i64 sum).wf = true) :
    Calls Tryd.prog 85 #[.map (some b), .int .i64 sum, .slice A m c] w fun e w' => e = .returned (.tuple #[]) ∧ ∃ D', MapF w' b (n + m) D' (giveF f sum ls) ∧ w.grownBy w' (some b) := by
  have HL := Lib.hid HS.out.len
  have HLS := Lib.hid hls
  clear hls
  go_enter Tryd.func85, Tryd.ntmps85
  go_wp2_with fail
  go_loopw [10] (fun s10 wr => ∃ (k : Nat), s10 = .int .i64 (k : Int) ∧ k ≤ m ∧ Hid (∃ D', MapF wr b (n + k) D' (giveF f sum (ls.take k))) ∧ Hid (w.grownBy wr (some b))) (fun s10 _ => m - (intOf s10).toNat)
  case atStart => exact ⟨0, rfl, Nat.zero_le _, Lib.hid ⟨D, by rw [List.take_zero, give_nil]; exact HM.out⟩, Lib.hid (World.grownBy.refl w _)⟩
  case round =>
    obtain ⟨k, rfl, hk, HD, HG⟩ := hrel
    by_cases hkm : k < m
    · have hkm' : (k : Int) < (m : Int) := by omega
      obtain ⟨g, o, hA, hc0⟩ := sts_cell HS.out (k := k) (by have := HL.out; omega)
      have hmb := HM.out.1
      have hgb : g ≠ b := by
        rintro rfl
        obtain ⟨es, clock, hb, _⟩ := hmb
        unfold World.cell? at hc0
        rw [hb] at hc0
        cases hc0
      have hc := HG.out.cell hc0 (by show some g ≠ some b; intro e; injection e with e; exact hgb e)
      have hx : ls[k]? = some (ls[k]'(by have := HL.out; omega)) := List.getElem?_eq_getElem _
      obtain ⟨x, ex⟩ : ∃ x, ls[k]'(by have := HL.out; omega) = x := ⟨_, rfl⟩
      rw [ex] at hc hx
      have hxl : x.length ≤ 65536 := HLS.out x (List.mem_of_getElem? hx)
      obtain ⟨D', hD'⟩ := HD.out
      obtain ⟨hown, hism, hat⟩ := hD'
      have HP := Lib.hid (give_put (x := x) hism hat)
      have HOWN := Lib.hid hown
      have HT : Hid (ls.take (k + 1) = ls.take k ++ [x]) := by show _ = _; rw [List.take_add_one, hx]; rfl
      have HKEY := Lib.hid (key_of hxl)
      subst hA
      clear hc0 hmb hgb hx ex hxl hown hism hat
      go_wp2_with (at_mapUpdate; refine wpList_mapUpdate_own _ rfl _ _ _ 103 rfl 9 3 slaw Tryd.underlying103 _ b (n + k) _ rfl HOWN.out (by unfold maxLen; omega) _ _ _ rfl rfl HKEY.out _ [] (plainElem_int Tryd.underlying3 hsum) ?_; intro w1 own1 gr1; have HO1 := Lib.hid own1; have HG1 := Lib.hid gr1; clear own1 gr1)
      go_roundw
      case rel => exact ⟨k + 1, by simp, by omega, Lib.hid ⟨_, by rw [HT.out]; exact ⟨HO1.out, HP.out⟩⟩, Lib.hid (HG.out.trans HG1.out)⟩
      case measure => simp [intOf]; omega
    · obtain rfl : k = m := by omega
      have HD2 : Hid (∃ D', MapF wr b (n + k) D' (giveF f sum ls)) := by
        have := HD.out
        rw [List.take_of_length_le (by have := HL.out; omega)] at this
        exact this
      have hkk : decide ((k : Int) < (k : Int)) = false := by simp
      clear hkm hk HD
      go_wp2_with fail
      refine bodyPost_end (v := .tuple #[]) ?_ rfl ?_
      · simp [results, Tryd.results85, go_sem]
      · obtain ⟨D', hD'⟩ := HD2.out
        exact ⟨rfl, D', hD', HG.out⟩
set_option maxRecDepth 100000 in
def onlyT : List UInt8 := [73, 32, 74, 32, 85, 78, 76, 79, 79, 80, 32, 62, 82, 32, 82, 62, 32, 82, 64, 32, 50, 62, 82, 32, 50, 82, 62]
theorem only_fields : Lib.fields onlyT = onlyL := by kernel_rfl
set_option maxRecDepth 100000 in
def bothT : List UInt8 := [10, 9, 9, 59, 32, 68, 79, 69, 83, 62, 32, 91, 39, 93, 32, 91, 67, 72, 65, 82, 93, 32, 76, 73, 84, 69, 82, 65, 76, 32, 80, 79, 83, 84, 80, 79, 78, 69, 32, 82, 69, 67, 85, 82, 83, 69, 32, 73, 70, 32, 69, 76, 83, 69, 32, 84, 72, 69, 78, 32, 66, 69, 71, 73, 78, 32, 87, 72, 73, 76, 69, 10, 9, 9, 82, 69, 80, 69, 65, 84, 32, 85, 78, 84, 73, 76, 32, 65, 71, 65, 73, 78, 32, 68, 79, 32, 63, 68, 79, 32, 76, 79, 79, 80, 32, 43, 76, 79, 79, 80, 32, 76, 69, 65, 86, 69, 32, 83, 34, 32, 69, 88, 73, 84]
theorem both_fields : Lib.fields bothT = bothL := by kernel_rfl
set_option maxRecDepth 100000 in
def nowT : List UInt8 := [46, 34, 32, 40, 32, 92, 32, 91]
theorem now_fields : Lib.fields nowT = nowL := by kernel_rfl
/-- The flags that the map tells. -/
def mapFlag (s : List UInt8) : Int := giveF (giveF (giveF (giveF (fun _ => 0) 6 (primL.take 12)) 4 onlyL) 5 bothL) 1 nowL s
theorem flag_same : ∀ i, i < 167 → mapFlag (nmN i) = flagF (nmN i) i := by decide +kernel
theorem small_prim : ∀ x ∈ primL.take 12, x.length ≤ 65536 := by decide +kernel
theorem small_only : ∀ x ∈ onlyL, x.length ≤ 65536 := by decide +kernel
theorem small_both : ∀ x ∈ bothL, x.length ≤ 65536 := by decide +kernel
theorem small_now : ∀ x ∈ nowL, x.length ≤ 65536 := by decide +kernel
theorem Tab.grown {w w' : World} {b n : Nat} {D : DataW Unit} {f : List UInt8 → Int} (h : Tab w) (hm : MapF w b n D f) (g : w.grownBy w' (some b)) : Tab w' := fun c hc => by
  refine g.cell (h c hc) ?_
  show some 0 ≠ some b
  intro e
  injection e with e
  have hx := h c hc
  obtain ⟨es, clock, hb, _⟩ := hm.1
  rw [← e] at hb
  unfold World.cell? at hx
  rw [hb] at hx
  cases hx
end Go.Proofs.YtbighilgkmfemaaDoor
