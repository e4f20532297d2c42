/- What the laws of this stage lean on, part 9: VmHead, VmCat, DictRefE, DictRefF, LexCodeC, DictCodeA, DictCodeB, DictCodeC, DictCodeD, WordLay. -/
import Derived.Test.YtbighilgkmfemaaGreatDoorSetH
import Derived.Test.YtbighilgkmfemaaGreatDoorSetB
import Derived.Deep.Cut
import Derived.Deep.DeepCutAuto
import Derived.Test.YtbighilgkmfemaaGreatDoorSetC
import Derived.Shelf.Spec.SlicesGrow
import Derived.Laws.IdiomStrings
import Derived.Laws.BytesString
import Derived.Deep.QuietTactic
import Derived.BigQuiet
import Derived.Shelf.SlicesQ.Equal
import Derived.WalkSpells
import Derived.Laws.StructEq

/- The contract of the program's head: what stands ahead of Start. -/
namespace Go.Proofs.YtbighilgkmfemaaGreatDoor
open Go.RowKit
set_option linter.unusedVariables false
set_option linter.unusedSimpArgs false

set_option maxRecDepth 100000 in
set_option maxHeartbeats 4000000 in
theorem place_any (n : Nat) (hn : n ≤ 1000) (w : World) : Calls Tryz.prog 89 #[.int .i64 (n : Int)] w fun e w' => e = .returned (.int .i64 ((32 + 8 * n : Nat) : Int)) ∧ w = w' := by
  have hs : IntKind.i64.wrap (8 * (n : Int)) = 8 * (n : Int) := IntWalk.i64_in _ ⟨by omega, by omega⟩
  have hs2 : IntKind.i64.wrap (32 + 8 * (n : Int)) = 32 + 8 * (n : Int) := IntWalk.i64_in _ ⟨by omega, by omega⟩
  go_enter Tryz.func89, Tryz.ntmps89
  go_wp2
  go_ret
  exact ⟨by simp, rfl⟩
set_option maxRecDepth 100000 in
set_option maxHeartbeats 4000000 in
theorem field_any (n : Nat) (hn : n < 167) (w : World) : Calls Tryz.prog 112 #[.int .i64 (n : Int)] w fun e w' => e = .returned (.int .i64 ((numN n : Nat) : Int)) ∧ w = w' := by
  by_cases h : n < 130
  · have h' : (n : Int) < 130 := by omega
    rw [num_lo h]
    go_enter Tryz.func112, Tryz.ntmps112
    go_wp2
    go_ret
    exact ⟨rfl, rfl⟩
  · have h' : decide ((n : Int) < 130) = false := by simp; omega
    have hs : IntKind.i64.wrap (300 + (n : Int)) = 300 + (n : Int) := IntWalk.i64_in _ ⟨by omega, by omega⟩
    have hs2 : IntKind.i64.wrap (300 + (n : Int) - 130) = 300 + (n : Int) - 130 := IntWalk.i64_in _ ⟨by omega, by omega⟩
    have hm := num_hi h
    clear h
    go_enter Tryz.func112, Tryz.ntmps112
    go_wp2
    go_ret
    exact ⟨by rw [hm]; congr 2; simp; omega, rfl⟩
/-- A memory of 1368 bytes in a box, behind what w had. -/
def HdAt (w : World) (b : Nat) (r : List UInt8) (q : Nat) (w1 : World) : Prop := ∃ A P L c K d m, At b A P L c K d m w1 ∧ m.1 = r ∧ m.2.length ≤ q ∧ r.length = 1368 ∧ w.heap.size ≤ b ∧ Below w.heap.size w w1
theorem HdAt.keep {w W W' : World} {b q : Nat} {r : List UInt8} (h : HdAt w b r q W) (x : Below W.heap.size W W') : HdAt w b r q W' := by
  obtain ⟨A, P, L, c, K, d, m, h1, h2, h3, h4, h5, h6⟩ := h
  exact ⟨A, P, L, c, K, d, m, h1.keep x, h2, h3, h4, h5, below_then h6 x⟩
theorem drew_below (w : World) : Below w.heap.size w w.drew := ⟨rfl, rfl, rfl, Nat.le_refl _, fun _ _ => rfl⟩
theorem hdat_put {w W w2 : World} {b q : Nat} {A P A' P' : Option Addr} {L c K d L' c' K' d' p : Nat} {m : PM} {r : List UInt8} (n : Int) (h : At b A P L c K d m W) (hr : m.1 = r) (hq : m.2.length ≤ q) (hl : r.length = 1368) (hbw : w.heap.size ≤ b) (hW : Below w.heap.size w W)
    (hb : Below W.heap.size W w2) (hm : IsMem w2 (.agg #[.slice A' L' c', .slice P' K' d']) (storeF m (p : Int) n)) (h8 : p % 8 = 0) (hp : p + 8 ≤ 1368) :
    HdAt w b (layF r (p : Int) (cellBytes n)) (q + 1) ((w2.setCell ⟨b, 0, none⟩ (.slice A' L' c')).setCell ⟨b, 1, none⟩ (.slice P' K' d')) := by
  subst hr
  obtain ⟨e1, e2⟩ := store_put (m := m) n hl h8 hp
  have ok : okB m.1.length (p : Int) ((cellBytes n).length : Nat) = true := by
    rw [hl, cellBytes_len]
    show okB 1368 (p : Int) 8 = true
    unfold okB
    rw [decide_eq_true_eq]
    omega
  refine ⟨A', P', L', c', K', d', _, ⟨(h.1.keep hb).put _ _, hm.row (h.1.keep hb) (row_put _ _ _ _)⟩, e1, by rw [e2]; omega, ?_, hbw, ?_⟩
  · rw [layF_len ok, hl]
  · exact ((below_then hW hb).setCell (p := ⟨b, 0, none⟩) hbw _).setCell (p := ⟨b, 1, none⟩) hbw _
theorem hd_call {w : World} {A P : Option Addr} {L c K d : Nat} {m : PM} {r : List UInt8} {q : Nat} (p n : Int) (HM : IsMem w (.agg #[.slice A L c, .slice P K d]) m) (hr : m.1 = r) (hl : r.length = 1368) (hq : m.2.length ≤ q) (h9 : q < 1000) :
    Calls Tryz.prog 111 #[.agg #[.slice A L c, .slice P K d], .int .i64 p, .int .i64 n] w fun e w' => ∃ A' L' c' P' K' d' C, e = .returned (.tuple #[.agg #[.slice A' L' c', .slice P' K' d'], .int .i64 C]) ∧ IsMem w' (.agg #[.slice A' L' c', .slice P' K' d']) (storeF m p n) ∧ Below w.heap.size w w' := by
  subst hr
  have e1 := HM.len1
  have e2 := HM.len2
  refine (store_at A P L c K d m p n w (Lib.hid HM) (by omega) (by omega)).mono ?_
  rintro e w1 ⟨A', L', c', P', K', d', he, hm, b⟩
  exact ⟨A', L', c', P', K', d', _, he, hm, b⟩
set_option maxRecDepth 100000 in
set_option maxHeartbeats 4000000 in
theorem head_any (w : World) : Calls Tryz.prog 83 #[] w fun e w' => ∃ A L c, e = .returned (.agg #[.slice A L c, .slice none 0 0]) ∧ IsMem w' (.agg #[.slice A L c, .slice none 0 0]) (rowN 1368 167, []) ∧ Below w.heap.size w w' := by
  go_enter Tryz.func83, Tryz.ntmps83
  go_wp2_with fail
  refine (new_any 1368 _).mono ?_
  rintro e w1 ⟨A, L, c, P, K, d, rfl, hm, bb⟩
  have B1 := Lib.hid bb
  have M1 := Lib.hid hm
  clear hm bb
  go_upto_region 2 with fail
  obtain ⟨w0, hw0⟩ : ∃ w0, w.alloc (.cells #[.slice none 0 0, .slice none 0 0] 27) = w0 := ⟨_, rfl⟩
  have hz : Box w0 w.heap.size (.slice none 0 0) (.slice none 0 0) 27 := by rw [← hw0]; exact box_new _ _ _ _
  have hB0 : Below w.heap.size w w0 := by rw [← hw0]; exact al_one _ _
  have HZ := Lib.hid hz
  have HB0 := Lib.hid hB0
  rw [hw0] at B1
  have X0 : HdAt w0 w1.heap.size (List.replicate 1368 0) 0 (w1.alloc (.cells #[.slice A L c, .slice P K d] 27)) :=
    ⟨A, P, L, c, K, d, newF 1368, ⟨box_new _ _ _ _, M1.out.keep (al_one _ _)⟩, by decide +kernel, by decide +kernel, by simp, B1.out.size, B1.out.alloc B1.out.size _⟩
  have HX := Lib.hid X0
  clear hw0 hz hB0
  obtain ⟨b, hb⟩ : ∃ b, w1.heap.size = b := ⟨_, rfl⟩
  obtain ⟨W, hW⟩ : ∃ W, w1.alloc (.cells #[.slice A L c, .slice P K d] 27) = W := ⟨_, rfl⟩
  rw [hb, hW] at HX
  rw [hb, hW]
  clear X0 hb hW B1 M1
  obtain ⟨A, P, L, c, K, d, m, hAt, hr, hq, hl, hbw, hBW⟩ := HX.out
  obtain ⟨p0, p1⟩ := hAt.use
  have HA := Lib.hid hAt
  have HR := Lib.hid hr
  have HQ := Lib.hid hq
  have HL := Lib.hid hl
  have HBW := Lib.hid hbw
  have HW := Lib.hid hBW
  clear hAt hr hq hl hbw hBW
  have HC := Lib.hid (hd_call 0 10 HA.out.2 HR.out HL.out HQ.out (by decide))
  go_wp2_with fail
  refine HC.out.mono ?_
  rintro e w2 ⟨A', L', c', P', K', d', C, rfl, hm, bb⟩
  have X1 := Lib.hid (hdat_put (p := 0) 10 HA.out HR.out HQ.out HL.out HBW.out HW.out bb hm (by decide) (by decide))
  have hu := (HA.out.1.keep bb).use
  obtain ⟨u0, u1, u2, u3⟩ := hu
  clear p0 p1 HC hm bb HX
  obtain ⟨V, hV⟩ : ∃ V, (w2.setCell ⟨b, 0, none⟩ (.slice A' L' c')).setCell ⟨b, 1, none⟩ (.slice P' K' d') = V := ⟨_, rfl⟩
  rw [hV] at X1
  go_upto_region 3 with fail
  clear u0 u1 u2 u3 hV HA HR HQ HL HBW HW
  go_cut [13] (fun s13 wx => HdAt w0 b (layF (layF (List.replicate 1368 0) ((0 : Nat) : Int) (cellBytes ((10 : Nat) : Int))) ((16 : Nat) : Int) (cellBytes ((96 : Nat) : Int))) 2 wx)
  case first =>
    refine wp_region_noPanic ?_
    refine wp_region_held_drew (S := fun _ => True) (by kernel_rfl) trivial (fun _ => ?_)
    have XD := Lib.hid (X1.out.keep (drew_below _))
    generalize World.drew _ = U at XD ⊢
    obtain ⟨A, P, L, c, K, d, m, hAt, hr, hq, hl, hbw, hBW⟩ := XD.out
    obtain ⟨p0, p1⟩ := hAt.use
    have HA := Lib.hid hAt
    have HR := Lib.hid hr
    have HQ := Lib.hid hq
    have HL := Lib.hid hl
    have HBW := Lib.hid hbw
    have HW := Lib.hid hBW
    clear hAt hr hq hl hbw hBW
    have HC := Lib.hid (hd_call 16 96 HA.out.2 HR.out HL.out HQ.out (by decide))
    have HP : Hid (∀ w, Calls Tryz.prog 89 #[.int .i64 8] w fun e w' => e = .returned (.int .i64 96) ∧ w = w') := fun w => place_any 8 (by decide) w
    refine wpAnyH_ready (rs := [0, 1]) (by kernel_rfl) (by simp) ?_
    refine AllReadyH.cons (o := _) rfl (fun K hK => ?_) (AllReadyH.cons (o := _) rfl (fun K hK => ?_) (AllReadyH.nil))
    · go_simp
      refine hK.out _ _ trivial (fun _ => ?_)
      clear hK K
      try try simp only [List.getElem_toArray, List.getElem_cons_succ, List.getElem_cons_zero, Act.put, List.setIfInBounds_toArray, List.set_cons_zero, List.set_cons_succ]
      refine wpAnyH_ready (rs := [1]) (by kernel_rfl) (by simp) ?_
      refine AllReadyH.cons (o := _) rfl (fun K hK => ?_) (AllReadyH.nil)
      · go_simp
        refine (HP.out _).mono ?_
        rintro e w9 ⟨rfl, rfl⟩
        go_wp2_with fail
        refine hK.out _ _ trivial (fun _ => ?_)
        clear hK K
        try try simp only [List.getElem_toArray, List.getElem_cons_succ, List.getElem_cons_zero, Act.put, List.setIfInBounds_toArray, List.set_cons_zero, List.set_cons_succ]
        refine wpAnyH_ready (rs := [2]) (by kernel_rfl) (by simp) ?_
        refine AllReadyH.cons (o := _) rfl (fun K hK => ?_) AllReadyH.nil
        go_simp
        refine HC.out.mono ?_
        rintro e w2 ⟨A', L', c', P', K', d', C, rfl, hm, bb⟩
        go_wp2_with fail
        refine hK.out _ _ trivial (fun _ => ?_)
        clear hK K
        try try simp only [List.getElem_toArray, List.getElem_cons_succ, List.getElem_cons_zero, Act.put, List.setIfInBounds_toArray, List.set_cons_zero, List.set_cons_succ]
        have X2 := Lib.hid (hdat_put (p := 16) 96 HA.out HR.out HQ.out HL.out HBW.out HW.out bb hm (by omega) (by omega))
        obtain ⟨u0, u1, u2, u3⟩ := (HA.out.1.keep bb).use
        clear hm bb
        (refine wpAnyH_take (i := 3) (oi := _) (v := ?v3z1) rfl (by kernel_rfl) (by kernel_rfl) (by kernel_rfl) (fun _ _ _ h => h) (Or.inl ⟨by kernel_rfl, ?y3z1⟩) (by assumption) ?r3z1; case y3z1 => (intro w hSw; (try dsimp only at hSw); go_simp; (try with_reducible rfl))); (try simp only [List.getElem_toArray, List.getElem_cons_succ, List.getElem_cons_zero, Act.put, List.setIfInBounds_toArray, List.set_cons_zero, List.set_cons_succ])
        (refine wpAnyH_take (i := 4) (oi := _) (v := ?v4z2) rfl (by kernel_rfl) (by kernel_rfl) (by kernel_rfl) (fun _ _ _ h => h) (Or.inl ⟨by kernel_rfl, ?y4z2⟩) (by assumption) ?r4z2; case y4z2 => (intro w hSw; (try dsimp only at hSw); go_simp; (try with_reducible rfl))); (try simp only [List.getElem_toArray, List.getElem_cons_succ, List.getElem_cons_zero, Act.put, List.setIfInBounds_toArray, List.set_cons_zero, List.set_cons_succ])
        (refine wpAnyH_take (i := 5) (oi := _) (v := ?v5z3) rfl (by kernel_rfl) (by kernel_rfl) (by kernel_rfl) (fun _ _ _ h => h) (Or.inl ⟨by kernel_rfl, ?y5z3⟩) (by assumption) ?r5z3; case y5z3 => (intro w hSw; (try dsimp only at hSw); go_simp; (try with_reducible rfl))); (try simp only [List.getElem_toArray, List.getElem_cons_succ, List.getElem_cons_zero, Act.put, List.setIfInBounds_toArray, List.set_cons_zero, List.set_cons_succ])
        refine wpAnyH_ready (rs := [6]) (by kernel_rfl) (by simp) ?_
        refine AllReadyH.cons (o := _) rfl (fun K hK => ?_) AllReadyH.nil
        go_simp
        refine hK.out _ _ trivial (fun _ => ?_)
        clear hK K
        try try simp only [List.getElem_toArray, List.getElem_cons_succ, List.getElem_cons_zero, Act.put, List.setIfInBounds_toArray, List.set_cons_zero, List.set_cons_succ]
        refine wpAnyH_done (by kernel_rfl) ?_ _
        refine NoPanic.normal ?_
        clear u0 u1 u2 u3
        go_wp2_with fail
        go_meet
        exact X2.out
    · go_simp
      refine (HP.out _).mono ?_
      rintro e w9 ⟨rfl, rfl⟩
      go_wp2_with fail
      refine hK.out _ _ trivial (fun _ => ?_)
      clear hK K
      try try simp only [List.getElem_toArray, List.getElem_cons_succ, List.getElem_cons_zero, Act.put, List.setIfInBounds_toArray, List.set_cons_zero, List.set_cons_succ]
      refine wpAnyH_ready (rs := [0]) (by kernel_rfl) (by simp) ?_
      refine AllReadyH.cons (o := _) rfl (fun K hK => ?_) (AllReadyH.nil)
      · go_simp
        refine hK.out _ _ trivial (fun _ => ?_)
        clear hK K
        try try simp only [List.getElem_toArray, List.getElem_cons_succ, List.getElem_cons_zero, Act.put, List.setIfInBounds_toArray, List.set_cons_zero, List.set_cons_succ]
        refine wpAnyH_ready (rs := [2]) (by kernel_rfl) (by simp) ?_
        refine AllReadyH.cons (o := _) rfl (fun K hK => ?_) AllReadyH.nil
        go_simp
        refine HC.out.mono ?_
        rintro e w2 ⟨A', L', c', P', K', d', C, rfl, hm, bb⟩
        go_wp2_with fail
        refine hK.out _ _ trivial (fun _ => ?_)
        clear hK K
        try try simp only [List.getElem_toArray, List.getElem_cons_succ, List.getElem_cons_zero, Act.put, List.setIfInBounds_toArray, List.set_cons_zero, List.set_cons_succ]
        have X2 := Lib.hid (hdat_put (p := 16) 96 HA.out HR.out HQ.out HL.out HBW.out HW.out bb hm (by omega) (by omega))
        obtain ⟨u0, u1, u2, u3⟩ := (HA.out.1.keep bb).use
        clear hm bb
        (refine wpAnyH_take (i := 3) (oi := _) (v := ?v3z4) rfl (by kernel_rfl) (by kernel_rfl) (by kernel_rfl) (fun _ _ _ h => h) (Or.inl ⟨by kernel_rfl, ?y3z4⟩) (by assumption) ?r3z4; case y3z4 => (intro w hSw; (try dsimp only at hSw); go_simp; (try with_reducible rfl))); (try simp only [List.getElem_toArray, List.getElem_cons_succ, List.getElem_cons_zero, Act.put, List.setIfInBounds_toArray, List.set_cons_zero, List.set_cons_succ])
        (refine wpAnyH_take (i := 4) (oi := _) (v := ?v4z5) rfl (by kernel_rfl) (by kernel_rfl) (by kernel_rfl) (fun _ _ _ h => h) (Or.inl ⟨by kernel_rfl, ?y4z5⟩) (by assumption) ?r4z5; case y4z5 => (intro w hSw; (try dsimp only at hSw); go_simp; (try with_reducible rfl))); (try simp only [List.getElem_toArray, List.getElem_cons_succ, List.getElem_cons_zero, Act.put, List.setIfInBounds_toArray, List.set_cons_zero, List.set_cons_succ])
        (refine wpAnyH_take (i := 5) (oi := _) (v := ?v5z6) rfl (by kernel_rfl) (by kernel_rfl) (by kernel_rfl) (fun _ _ _ h => h) (Or.inl ⟨by kernel_rfl, ?y5z6⟩) (by assumption) ?r5z6; case y5z6 => (intro w hSw; (try dsimp only at hSw); go_simp; (try with_reducible rfl))); (try simp only [List.getElem_toArray, List.getElem_cons_succ, List.getElem_cons_zero, Act.put, List.setIfInBounds_toArray, List.set_cons_zero, List.set_cons_succ])
        refine wpAnyH_ready (rs := [6]) (by kernel_rfl) (by simp) ?_
        refine AllReadyH.cons (o := _) rfl (fun K hK => ?_) AllReadyH.nil
        go_simp
        refine hK.out _ _ trivial (fun _ => ?_)
        clear hK K
        try try simp only [List.getElem_toArray, List.getElem_cons_succ, List.getElem_cons_zero, Act.put, List.setIfInBounds_toArray, List.set_cons_zero, List.set_cons_succ]
        refine wpAnyH_done (by kernel_rfl) ?_ _
        refine NoPanic.normal ?_
        clear u0 u1 u2 u3
        go_wp2_with fail
        go_meet
        exact X2.out
  case rest =>
  have X2 := Lib.hid hcut
  clear hcut X1
  go_upto_region 4 with fail
  go_cut [19] (fun s19 wx => HdAt w0 b (layF (layF (layF (List.replicate 1368 0) ((0 : Nat) : Int) (cellBytes ((10 : Nat) : Int))) ((16 : Nat) : Int) (cellBytes ((96 : Nat) : Int))) ((24 : Nat) : Int) (cellBytes ((104 : Nat) : Int))) 3 wx)
  case first =>
    refine wp_region_noPanic ?_
    refine wp_region_held_drew (S := fun _ => True) (by kernel_rfl) trivial (fun _ => ?_)
    have XD := Lib.hid (X2.out.keep (drew_below _))
    generalize World.drew _ = U at XD ⊢
    obtain ⟨A, P, L, c, K, d, m, hAt, hr, hq, hl, hbw, hBW⟩ := XD.out
    obtain ⟨p0, p1⟩ := hAt.use
    have HA := Lib.hid hAt
    have HR := Lib.hid hr
    have HQ := Lib.hid hq
    have HL := Lib.hid hl
    have HBW := Lib.hid hbw
    have HW := Lib.hid hBW
    clear hAt hr hq hl hbw hBW
    have HC := Lib.hid (hd_call 24 104 HA.out.2 HR.out HL.out HQ.out (by decide))
    have HP : Hid (∀ w, Calls Tryz.prog 89 #[.int .i64 9] w fun e w' => e = .returned (.int .i64 104) ∧ w = w') := fun w => place_any 9 (by decide) w
    refine wpAnyH_ready (rs := [0, 1]) (by kernel_rfl) (by simp) ?_
    refine AllReadyH.cons (o := _) rfl (fun K hK => ?_) (AllReadyH.cons (o := _) rfl (fun K hK => ?_) (AllReadyH.nil))
    · go_simp
      refine hK.out _ _ trivial (fun _ => ?_)
      clear hK K
      try try simp only [List.getElem_toArray, List.getElem_cons_succ, List.getElem_cons_zero, Act.put, List.setIfInBounds_toArray, List.set_cons_zero, List.set_cons_succ]
      refine wpAnyH_ready (rs := [1]) (by kernel_rfl) (by simp) ?_
      refine AllReadyH.cons (o := _) rfl (fun K hK => ?_) (AllReadyH.nil)
      · go_simp
        refine (HP.out _).mono ?_
        rintro e w9 ⟨rfl, rfl⟩
        go_wp2_with fail
        refine hK.out _ _ trivial (fun _ => ?_)
        clear hK K
        try try simp only [List.getElem_toArray, List.getElem_cons_succ, List.getElem_cons_zero, Act.put, List.setIfInBounds_toArray, List.set_cons_zero, List.set_cons_succ]
        refine wpAnyH_ready (rs := [2]) (by kernel_rfl) (by simp) ?_
        refine AllReadyH.cons (o := _) rfl (fun K hK => ?_) AllReadyH.nil
        go_simp
        refine HC.out.mono ?_
        rintro e w2 ⟨A', L', c', P', K', d', C, rfl, hm, bb⟩
        go_wp2_with fail
        refine hK.out _ _ trivial (fun _ => ?_)
        clear hK K
        try try simp only [List.getElem_toArray, List.getElem_cons_succ, List.getElem_cons_zero, Act.put, List.setIfInBounds_toArray, List.set_cons_zero, List.set_cons_succ]
        have X2 := Lib.hid (hdat_put (p := 24) 104 HA.out HR.out HQ.out HL.out HBW.out HW.out bb hm (by omega) (by omega))
        obtain ⟨u0, u1, u2, u3⟩ := (HA.out.1.keep bb).use
        clear hm bb
        (refine wpAnyH_take (i := 3) (oi := _) (v := ?v3z7) rfl (by kernel_rfl) (by kernel_rfl) (by kernel_rfl) (fun _ _ _ h => h) (Or.inl ⟨by kernel_rfl, ?y3z7⟩) (by assumption) ?r3z7; case y3z7 => (intro w hSw; (try dsimp only at hSw); go_simp; (try with_reducible rfl))); (try simp only [List.getElem_toArray, List.getElem_cons_succ, List.getElem_cons_zero, Act.put, List.setIfInBounds_toArray, List.set_cons_zero, List.set_cons_succ])
        (refine wpAnyH_take (i := 4) (oi := _) (v := ?v4z8) rfl (by kernel_rfl) (by kernel_rfl) (by kernel_rfl) (fun _ _ _ h => h) (Or.inl ⟨by kernel_rfl, ?y4z8⟩) (by assumption) ?r4z8; case y4z8 => (intro w hSw; (try dsimp only at hSw); go_simp; (try with_reducible rfl))); (try simp only [List.getElem_toArray, List.getElem_cons_succ, List.getElem_cons_zero, Act.put, List.setIfInBounds_toArray, List.set_cons_zero, List.set_cons_succ])
        (refine wpAnyH_take (i := 5) (oi := _) (v := ?v5z9) rfl (by kernel_rfl) (by kernel_rfl) (by kernel_rfl) (fun _ _ _ h => h) (Or.inl ⟨by kernel_rfl, ?y5z9⟩) (by assumption) ?r5z9; case y5z9 => (intro w hSw; (try dsimp only at hSw); go_simp; (try with_reducible rfl))); (try simp only [List.getElem_toArray, List.getElem_cons_succ, List.getElem_cons_zero, Act.put, List.setIfInBounds_toArray, List.set_cons_zero, List.set_cons_succ])
        refine wpAnyH_ready (rs := [6]) (by kernel_rfl) (by simp) ?_
        refine AllReadyH.cons (o := _) rfl (fun K hK => ?_) AllReadyH.nil
        go_simp
        refine hK.out _ _ trivial (fun _ => ?_)
        clear hK K
        try try simp only [List.getElem_toArray, List.getElem_cons_succ, List.getElem_cons_zero, Act.put, List.setIfInBounds_toArray, List.set_cons_zero, List.set_cons_succ]
        refine wpAnyH_done (by kernel_rfl) ?_ _
        refine NoPanic.normal ?_
        clear u0 u1 u2 u3
        go_wp2_with fail
        go_meet
        exact X2.out
    · go_simp
      refine (HP.out _).mono ?_
      rintro e w9 ⟨rfl, rfl⟩
      go_wp2_with fail
      refine hK.out _ _ trivial (fun _ => ?_)
      clear hK K
      try try simp only [List.getElem_toArray, List.getElem_cons_succ, List.getElem_cons_zero, Act.put, List.setIfInBounds_toArray, List.set_cons_zero, List.set_cons_succ]
      refine wpAnyH_ready (rs := [0]) (by kernel_rfl) (by simp) ?_
      refine AllReadyH.cons (o := _) rfl (fun K hK => ?_) (AllReadyH.nil)
      · go_simp
        refine hK.out _ _ trivial (fun _ => ?_)
        clear hK K
        try try simp only [List.getElem_toArray, List.getElem_cons_succ, List.getElem_cons_zero, Act.put, List.setIfInBounds_toArray, List.set_cons_zero, List.set_cons_succ]
        refine wpAnyH_ready (rs := [2]) (by kernel_rfl) (by simp) ?_
        refine AllReadyH.cons (o := _) rfl (fun K hK => ?_) AllReadyH.nil
        go_simp
        refine HC.out.mono ?_
        rintro e w2 ⟨A', L', c', P', K', d', C, rfl, hm, bb⟩
        go_wp2_with fail
        refine hK.out _ _ trivial (fun _ => ?_)
        clear hK K
        try try simp only [List.getElem_toArray, List.getElem_cons_succ, List.getElem_cons_zero, Act.put, List.setIfInBounds_toArray, List.set_cons_zero, List.set_cons_succ]
        have X2 := Lib.hid (hdat_put (p := 24) 104 HA.out HR.out HQ.out HL.out HBW.out HW.out bb hm (by omega) (by omega))
        obtain ⟨u0, u1, u2, u3⟩ := (HA.out.1.keep bb).use
        clear hm bb
        (refine wpAnyH_take (i := 3) (oi := _) (v := ?v3z10) rfl (by kernel_rfl) (by kernel_rfl) (by kernel_rfl) (fun _ _ _ h => h) (Or.inl ⟨by kernel_rfl, ?y3z10⟩) (by assumption) ?r3z10; case y3z10 => (intro w hSw; (try dsimp only at hSw); go_simp; (try with_reducible rfl))); (try simp only [List.getElem_toArray, List.getElem_cons_succ, List.getElem_cons_zero, Act.put, List.setIfInBounds_toArray, List.set_cons_zero, List.set_cons_succ])
        (refine wpAnyH_take (i := 4) (oi := _) (v := ?v4z11) rfl (by kernel_rfl) (by kernel_rfl) (by kernel_rfl) (fun _ _ _ h => h) (Or.inl ⟨by kernel_rfl, ?y4z11⟩) (by assumption) ?r4z11; case y4z11 => (intro w hSw; (try dsimp only at hSw); go_simp; (try with_reducible rfl))); (try simp only [List.getElem_toArray, List.getElem_cons_succ, List.getElem_cons_zero, Act.put, List.setIfInBounds_toArray, List.set_cons_zero, List.set_cons_succ])
        (refine wpAnyH_take (i := 5) (oi := _) (v := ?v5z12) rfl (by kernel_rfl) (by kernel_rfl) (by kernel_rfl) (fun _ _ _ h => h) (Or.inl ⟨by kernel_rfl, ?y5z12⟩) (by assumption) ?r5z12; case y5z12 => (intro w hSw; (try dsimp only at hSw); go_simp; (try with_reducible rfl))); (try simp only [List.getElem_toArray, List.getElem_cons_succ, List.getElem_cons_zero, Act.put, List.setIfInBounds_toArray, List.set_cons_zero, List.set_cons_succ])
        refine wpAnyH_ready (rs := [6]) (by kernel_rfl) (by simp) ?_
        refine AllReadyH.cons (o := _) rfl (fun K hK => ?_) AllReadyH.nil
        go_simp
        refine hK.out _ _ trivial (fun _ => ?_)
        clear hK K
        try try simp only [List.getElem_toArray, List.getElem_cons_succ, List.getElem_cons_zero, Act.put, List.setIfInBounds_toArray, List.set_cons_zero, List.set_cons_succ]
        refine wpAnyH_done (by kernel_rfl) ?_ _
        refine NoPanic.normal ?_
        clear u0 u1 u2 u3
        go_wp2_with fail
        go_meet
        exact X2.out
  case rest =>
  have X3 := Lib.hid hcut
  clear hcut X2
  rw [head_zero 1368 (by decide)] at X3
  go_wp2_with fail
  go_loopw [25] (fun s25 wx => ∃ i : Nat, s25 = .int .i64 (i : Int) ∧ i ≤ 167 ∧ Hid (HdAt w0 b (rowH 1368 i) (3 + i) wx)) (fun s25 _ => 167 - (intOf s25).toNat)
  case atStart => exact ⟨0, rfl, Nat.zero_le _, X3⟩
  case round =>
  obtain ⟨i, rfl, hi, HX⟩ := hrel
  by_cases hi7 : i < 167
  · have hi7' : (i : Int) < 167 := by omega
    go_upto_region 8 with fail
    refine wp_region_noPanic ?_
    refine wp_region_held_drew (S := fun _ => True) (by kernel_rfl) trivial (fun _ => ?_)
    have XD := Lib.hid (HX.out.keep (drew_below _))
    generalize World.drew _ = U at XD ⊢
    obtain ⟨A, P, L, c, K, d, m, hAt, hr, hq, hl, hbw, hBW⟩ := XD.out
    obtain ⟨p0, p1⟩ := hAt.use
    have HA := Lib.hid hAt
    have HR := Lib.hid hr
    have HQ := Lib.hid hq
    have HL := Lib.hid hl
    have HBW := Lib.hid hbw
    have HW := Lib.hid hBW
    clear hAt hr hq hl hbw hBW
    have HC := Lib.hid (hd_call ((32 + 8 * i : Nat) : Int) ((numN i : Nat) : Int) HA.out.2 HR.out HL.out HQ.out (by omega))
    have HP : Hid (∀ w, Calls Tryz.prog 89 #[.int .i64 (i : Int)] w fun e w' => e = .returned (.int .i64 ((32 + 8 * i : Nat) : Int)) ∧ w = w') := fun w => place_any i (by omega) w
    have HFL : Hid (∀ w, Calls Tryz.prog 112 #[.int .i64 (i : Int)] w fun e w' => e = .returned (.int .i64 ((numN i : Nat) : Int)) ∧ w = w') := fun w => field_any i hi7 w
    obtain ⟨QP, hQP⟩ : ∃ q, ((32 + 8 * i : Nat) : Int) = q := ⟨_, rfl⟩
    obtain ⟨QF, hQF⟩ : ∃ q, ((numN i : Nat) : Int) = q := ⟨_, rfl⟩
    rw [hQP, hQF] at HC
    rw [hQP] at HP
    rw [hQF] at HFL
    have HQP := Lib.hid hQP
    have HQF := Lib.hid hQF
    clear hQP hQF
    (refine wpAnyH_take (i := 1) (oi := _) (v := ?v1z13) rfl (by kernel_rfl) (by kernel_rfl) (by kernel_rfl) (fun _ _ _ h => h) (Or.inl ⟨by kernel_rfl, ?y1z13⟩) (by assumption) ?r1z13; case y1z13 => (intro w hSw; (try dsimp only at hSw); go_simp; (try with_reducible rfl))); (try simp only [List.getElem_toArray, List.getElem_cons_succ, List.getElem_cons_zero, Act.put, List.setIfInBounds_toArray, List.set_cons_zero, List.set_cons_succ])
    (refine wpAnyH_take (i := 3) (oi := _) (v := ?v3z14) rfl (by kernel_rfl) (by kernel_rfl) (by kernel_rfl) (fun _ _ _ h => h) (Or.inl ⟨by kernel_rfl, ?y3z14⟩) (by assumption) ?r3z14; case y3z14 => (intro w hSw; (try dsimp only at hSw); go_simp; (try with_reducible rfl))); (try simp only [List.getElem_toArray, List.getElem_cons_succ, List.getElem_cons_zero, Act.put, List.setIfInBounds_toArray, List.set_cons_zero, List.set_cons_succ])
    refine wpAnyH_ready (rs := [0, 2]) (by kernel_rfl) (by simp) ?_
    refine AllReadyH.cons (o := _) rfl (fun K hK => ?_) (AllReadyH.cons (o := _) rfl (fun K hK => ?_) (AllReadyH.nil))
    · go_simp
      refine hK.out _ _ trivial (fun _ => ?_)
      clear hK K
      try try simp only [List.getElem_toArray, List.getElem_cons_succ, List.getElem_cons_zero, Act.put, List.setIfInBounds_toArray, List.set_cons_zero, List.set_cons_succ]
      refine wpAnyH_ready (rs := [2]) (by kernel_rfl) (by simp) ?_
      refine AllReadyH.cons (o := _) rfl (fun K hK => ?_) (AllReadyH.nil)
      · go_simp
        refine (HP.out _).mono ?_
        rintro e w9 ⟨rfl, rfl⟩
        go_wp2_with fail
        refine hK.out _ _ trivial (fun _ => ?_)
        clear hK K
        try try simp only [List.getElem_toArray, List.getElem_cons_succ, List.getElem_cons_zero, Act.put, List.setIfInBounds_toArray, List.set_cons_zero, List.set_cons_succ]
        refine wpAnyH_ready (rs := [4]) (by kernel_rfl) (by simp) ?_
        refine AllReadyH.cons (o := _) rfl (fun K hK => ?_) (AllReadyH.nil)
        · go_simp
          refine (HFL.out _).mono ?_
          rintro e w9 ⟨rfl, rfl⟩
          go_wp2_with fail
          refine hK.out _ _ trivial (fun _ => ?_)
          clear hK K
          try try simp only [List.getElem_toArray, List.getElem_cons_succ, List.getElem_cons_zero, Act.put, List.setIfInBounds_toArray, List.set_cons_zero, List.set_cons_succ]
          refine wpAnyH_ready (rs := [5]) (by kernel_rfl) (by simp) ?_
          refine AllReadyH.cons (o := _) rfl (fun K hK => ?_) AllReadyH.nil
          go_simp
          refine HC.out.mono ?_
          rintro e w2 ⟨A', L', c', P', K', d', C, rfl, hm, bb⟩
          go_wp2_with fail
          refine hK.out _ _ trivial (fun _ => ?_)
          clear hK K
          try try simp only [List.getElem_toArray, List.getElem_cons_succ, List.getElem_cons_zero, Act.put, List.setIfInBounds_toArray, List.set_cons_zero, List.set_cons_succ]
          have X2 := Lib.hid (hdat_put (p := 32 + 8 * i) ((numN i : Nat) : Int) HA.out HR.out HQ.out HL.out HBW.out HW.out bb (by rw [← HQP.out, ← HQF.out] at hm; exact hm) (by omega) (by omega))
          obtain ⟨u0, u1, u2, u3⟩ := (HA.out.1.keep bb).use
          clear hm bb
          (refine wpAnyH_take (i := 6) (oi := _) (v := ?v6z15) rfl (by kernel_rfl) (by kernel_rfl) (by kernel_rfl) (fun _ _ _ h => h) (Or.inl ⟨by kernel_rfl, ?y6z15⟩) (by assumption) ?r6z15; case y6z15 => (intro w hSw; (try dsimp only at hSw); go_simp; (try with_reducible rfl))); (try simp only [List.getElem_toArray, List.getElem_cons_succ, List.getElem_cons_zero, Act.put, List.setIfInBounds_toArray, List.set_cons_zero, List.set_cons_succ])
          (refine wpAnyH_take (i := 7) (oi := _) (v := ?v7z16) rfl (by kernel_rfl) (by kernel_rfl) (by kernel_rfl) (fun _ _ _ h => h) (Or.inl ⟨by kernel_rfl, ?y7z16⟩) (by assumption) ?r7z16; case y7z16 => (intro w hSw; (try dsimp only at hSw); go_simp; (try with_reducible rfl))); (try simp only [List.getElem_toArray, List.getElem_cons_succ, List.getElem_cons_zero, Act.put, List.setIfInBounds_toArray, List.set_cons_zero, List.set_cons_succ])
          (refine wpAnyH_take (i := 8) (oi := _) (v := ?v8z17) rfl (by kernel_rfl) (by kernel_rfl) (by kernel_rfl) (fun _ _ _ h => h) (Or.inl ⟨by kernel_rfl, ?y8z17⟩) (by assumption) ?r8z17; case y8z17 => (intro w hSw; (try dsimp only at hSw); go_simp; (try with_reducible rfl))); (try simp only [List.getElem_toArray, List.getElem_cons_succ, List.getElem_cons_zero, Act.put, List.setIfInBounds_toArray, List.set_cons_zero, List.set_cons_succ])
          refine wpAnyH_ready (rs := [9]) (by kernel_rfl) (by simp) ?_
          refine AllReadyH.cons (o := _) rfl (fun K hK => ?_) AllReadyH.nil
          go_simp
          refine hK.out _ _ trivial (fun _ => ?_)
          clear hK K
          try try simp only [List.getElem_toArray, List.getElem_cons_succ, List.getElem_cons_zero, Act.put, List.setIfInBounds_toArray, List.set_cons_zero, List.set_cons_succ]
          refine wpAnyH_done (by kernel_rfl) ?_ _
          refine NoPanic.normal ?_
          clear u0 u1 u2 u3
          have X3 := X2.out
          rw [head_step hi7 (by decide)] at X3
          have X4 := Lib.hid X3
          clear X3 X2
          go_wp2_with fail
          go_roundw
          case rel => exact ⟨i + 1, by simp, by omega, X4⟩
          case measure => simp [intOf]; omega
    · go_simp
      refine (HP.out _).mono ?_
      rintro e w9 ⟨rfl, rfl⟩
      go_wp2_with fail
      refine hK.out _ _ trivial (fun _ => ?_)
      clear hK K
      try try simp only [List.getElem_toArray, List.getElem_cons_succ, List.getElem_cons_zero, Act.put, List.setIfInBounds_toArray, List.set_cons_zero, List.set_cons_succ]
      refine wpAnyH_ready (rs := [0, 4]) (by kernel_rfl) (by simp) ?_
      refine AllReadyH.cons (o := _) rfl (fun K hK => ?_) (AllReadyH.cons (o := _) rfl (fun K hK => ?_) (AllReadyH.nil))
      · go_simp
        refine hK.out _ _ trivial (fun _ => ?_)
        clear hK K
        try try simp only [List.getElem_toArray, List.getElem_cons_succ, List.getElem_cons_zero, Act.put, List.setIfInBounds_toArray, List.set_cons_zero, List.set_cons_succ]
        refine wpAnyH_ready (rs := [4]) (by kernel_rfl) (by simp) ?_
        refine AllReadyH.cons (o := _) rfl (fun K hK => ?_) (AllReadyH.nil)
        · go_simp
          refine (HFL.out _).mono ?_
          rintro e w9 ⟨rfl, rfl⟩
          go_wp2_with fail
          refine hK.out _ _ trivial (fun _ => ?_)
          clear hK K
          try try simp only [List.getElem_toArray, List.getElem_cons_succ, List.getElem_cons_zero, Act.put, List.setIfInBounds_toArray, List.set_cons_zero, List.set_cons_succ]
          refine wpAnyH_ready (rs := [5]) (by kernel_rfl) (by simp) ?_
          refine AllReadyH.cons (o := _) rfl (fun K hK => ?_) AllReadyH.nil
          go_simp
          refine HC.out.mono ?_
          rintro e w2 ⟨A', L', c', P', K', d', C, rfl, hm, bb⟩
          go_wp2_with fail
          refine hK.out _ _ trivial (fun _ => ?_)
          clear hK K
          try try simp only [List.getElem_toArray, List.getElem_cons_succ, List.getElem_cons_zero, Act.put, List.setIfInBounds_toArray, List.set_cons_zero, List.set_cons_succ]
          have X2 := Lib.hid (hdat_put (p := 32 + 8 * i) ((numN i : Nat) : Int) HA.out HR.out HQ.out HL.out HBW.out HW.out bb (by rw [← HQP.out, ← HQF.out] at hm; exact hm) (by omega) (by omega))
          obtain ⟨u0, u1, u2, u3⟩ := (HA.out.1.keep bb).use
          clear hm bb
          (refine wpAnyH_take (i := 6) (oi := _) (v := ?v6z18) rfl (by kernel_rfl) (by kernel_rfl) (by kernel_rfl) (fun _ _ _ h => h) (Or.inl ⟨by kernel_rfl, ?y6z18⟩) (by assumption) ?r6z18; case y6z18 => (intro w hSw; (try dsimp only at hSw); go_simp; (try with_reducible rfl))); (try simp only [List.getElem_toArray, List.getElem_cons_succ, List.getElem_cons_zero, Act.put, List.setIfInBounds_toArray, List.set_cons_zero, List.set_cons_succ])
          (refine wpAnyH_take (i := 7) (oi := _) (v := ?v7z19) rfl (by kernel_rfl) (by kernel_rfl) (by kernel_rfl) (fun _ _ _ h => h) (Or.inl ⟨by kernel_rfl, ?y7z19⟩) (by assumption) ?r7z19; case y7z19 => (intro w hSw; (try dsimp only at hSw); go_simp; (try with_reducible rfl))); (try simp only [List.getElem_toArray, List.getElem_cons_succ, List.getElem_cons_zero, Act.put, List.setIfInBounds_toArray, List.set_cons_zero, List.set_cons_succ])
          (refine wpAnyH_take (i := 8) (oi := _) (v := ?v8z20) rfl (by kernel_rfl) (by kernel_rfl) (by kernel_rfl) (fun _ _ _ h => h) (Or.inl ⟨by kernel_rfl, ?y8z20⟩) (by assumption) ?r8z20; case y8z20 => (intro w hSw; (try dsimp only at hSw); go_simp; (try with_reducible rfl))); (try simp only [List.getElem_toArray, List.getElem_cons_succ, List.getElem_cons_zero, Act.put, List.setIfInBounds_toArray, List.set_cons_zero, List.set_cons_succ])
          refine wpAnyH_ready (rs := [9]) (by kernel_rfl) (by simp) ?_
          refine AllReadyH.cons (o := _) rfl (fun K hK => ?_) AllReadyH.nil
          go_simp
          refine hK.out _ _ trivial (fun _ => ?_)
          clear hK K
          try try simp only [List.getElem_toArray, List.getElem_cons_succ, List.getElem_cons_zero, Act.put, List.setIfInBounds_toArray, List.set_cons_zero, List.set_cons_succ]
          refine wpAnyH_done (by kernel_rfl) ?_ _
          refine NoPanic.normal ?_
          clear u0 u1 u2 u3
          have X3 := X2.out
          rw [head_step hi7 (by decide)] at X3
          have X4 := Lib.hid X3
          clear X3 X2
          go_wp2_with fail
          go_roundw
          case rel => exact ⟨i + 1, by simp, by omega, X4⟩
          case measure => simp [intOf]; omega
      · go_simp
        refine (HFL.out _).mono ?_
        rintro e w9 ⟨rfl, rfl⟩
        go_wp2_with fail
        refine hK.out _ _ trivial (fun _ => ?_)
        clear hK K
        try try simp only [List.getElem_toArray, List.getElem_cons_succ, List.getElem_cons_zero, Act.put, List.setIfInBounds_toArray, List.set_cons_zero, List.set_cons_succ]
        refine wpAnyH_ready (rs := [0]) (by kernel_rfl) (by simp) ?_
        refine AllReadyH.cons (o := _) rfl (fun K hK => ?_) (AllReadyH.nil)
        · go_simp
          refine hK.out _ _ trivial (fun _ => ?_)
          clear hK K
          try try simp only [List.getElem_toArray, List.getElem_cons_succ, List.getElem_cons_zero, Act.put, List.setIfInBounds_toArray, List.set_cons_zero, List.set_cons_succ]
          refine wpAnyH_ready (rs := [5]) (by kernel_rfl) (by simp) ?_
          refine AllReadyH.cons (o := _) rfl (fun K hK => ?_) AllReadyH.nil
          go_simp
          refine HC.out.mono ?_
          rintro e w2 ⟨A', L', c', P', K', d', C, rfl, hm, bb⟩
          go_wp2_with fail
          refine hK.out _ _ trivial (fun _ => ?_)
          clear hK K
          try try simp only [List.getElem_toArray, List.getElem_cons_succ, List.getElem_cons_zero, Act.put, List.setIfInBounds_toArray, List.set_cons_zero, List.set_cons_succ]
          have X2 := Lib.hid (hdat_put (p := 32 + 8 * i) ((numN i : Nat) : Int) HA.out HR.out HQ.out HL.out HBW.out HW.out bb (by rw [← HQP.out, ← HQF.out] at hm; exact hm) (by omega) (by omega))
          obtain ⟨u0, u1, u2, u3⟩ := (HA.out.1.keep bb).use
          clear hm bb
          (refine wpAnyH_take (i := 6) (oi := _) (v := ?v6z21) rfl (by kernel_rfl) (by kernel_rfl) (by kernel_rfl) (fun _ _ _ h => h) (Or.inl ⟨by kernel_rfl, ?y6z21⟩) (by assumption) ?r6z21; case y6z21 => (intro w hSw; (try dsimp only at hSw); go_simp; (try with_reducible rfl))); (try simp only [List.getElem_toArray, List.getElem_cons_succ, List.getElem_cons_zero, Act.put, List.setIfInBounds_toArray, List.set_cons_zero, List.set_cons_succ])
          (refine wpAnyH_take (i := 7) (oi := _) (v := ?v7z22) rfl (by kernel_rfl) (by kernel_rfl) (by kernel_rfl) (fun _ _ _ h => h) (Or.inl ⟨by kernel_rfl, ?y7z22⟩) (by assumption) ?r7z22; case y7z22 => (intro w hSw; (try dsimp only at hSw); go_simp; (try with_reducible rfl))); (try simp only [List.getElem_toArray, List.getElem_cons_succ, List.getElem_cons_zero, Act.put, List.setIfInBounds_toArray, List.set_cons_zero, List.set_cons_succ])
          (refine wpAnyH_take (i := 8) (oi := _) (v := ?v8z23) rfl (by kernel_rfl) (by kernel_rfl) (by kernel_rfl) (fun _ _ _ h => h) (Or.inl ⟨by kernel_rfl, ?y8z23⟩) (by assumption) ?r8z23; case y8z23 => (intro w hSw; (try dsimp only at hSw); go_simp; (try with_reducible rfl))); (try simp only [List.getElem_toArray, List.getElem_cons_succ, List.getElem_cons_zero, Act.put, List.setIfInBounds_toArray, List.set_cons_zero, List.set_cons_succ])
          refine wpAnyH_ready (rs := [9]) (by kernel_rfl) (by simp) ?_
          refine AllReadyH.cons (o := _) rfl (fun K hK => ?_) AllReadyH.nil
          go_simp
          refine hK.out _ _ trivial (fun _ => ?_)
          clear hK K
          try try simp only [List.getElem_toArray, List.getElem_cons_succ, List.getElem_cons_zero, Act.put, List.setIfInBounds_toArray, List.set_cons_zero, List.set_cons_succ]
          refine wpAnyH_done (by kernel_rfl) ?_ _
          refine NoPanic.normal ?_
          clear u0 u1 u2 u3
          have X3 := X2.out
          rw [head_step hi7 (by decide)] at X3
          have X4 := Lib.hid X3
          clear X3 X2
          go_wp2_with fail
          go_roundw
          case rel => exact ⟨i + 1, by simp, by omega, X4⟩
          case measure => simp [intOf]; omega
  · obtain rfl : i = 167 := by omega
    rw [head_last] at HX
    clear hi7 hi
    obtain ⟨A, P, L, c, K, d, m, hAt, hr, hq, hl, hbw, hBW⟩ := HX.out
    obtain ⟨p0, p1⟩ := hAt.use
    have HA := Lib.hid hAt
    have HR := Lib.hid hr
    have HQ := Lib.hid hq
    have HL := Lib.hid hl
    have HBW := Lib.hid hbw
    have HW := Lib.hid hBW
    clear hAt hr hq hl hbw hBW
    have hzz := HZ.out.keep HW.out
    obtain ⟨z0, z1, z2, z3⟩ := hzz.use
    have HZZ := Lib.hid hzz
    clear hzz
    go_wp2_with fail
    refine (free_at A P L c K d _).mono ?_
    rintro e w2 ⟨rfl, bb⟩
    have H2 := Lib.hid (HZZ.out.keep bb)
    have HM : Hid (IsMem w2 (.agg #[.slice A L c, .slice none 0 0]) (rowN 1368 167, [])) := by
      obtain ⟨x, y, e, h, k⟩ := HA.out.2
      injection e with e
      injection e with e
      injection e with e1 e2
      subst e1
      rw [HR.out] at h
      exact mem_mk (h.keep bb) (pats_nil _)
    have HB2 := Lib.hid (below_then HB0.out (below_then HW.out bb))
    clear z0 z1 z2 z3 p0 p1 bb
    obtain ⟨z0, z1, z2, z3⟩ := H2.out.use
    go_wp2_with fail
    refine bodyPost_ret (v := .agg #[.slice A L c, .slice none 0 0]) ?_ rfl ?_
    · obtain ⟨r0, r1⟩ := H2.out.got (.slice A L c) (.slice none 0 0)
      simp [results, Tryz.results83, go_sem, r0, r1]
    · exact ⟨A, L, c, rfl, HM.out.row H2.out (row_put _ _ _ _), (HB2.out.setCell (by simp) _).setCell (by simp) _⟩
end Go.Proofs.YtbighilgkmfemaaGreatDoor

/- slices.Grow of no row, and slices.Concat of two rows, at bytes and at strings. -/
namespace Go.Proofs
open Go.Shelf
def Tryz.growb_ren : Go.Shelf.Ren := ⟨fun | 4 => 107 | n => n, fun | 0 => 0 | 3 => 3 | 4 => 4 | 9 => 9 | 20 => 20 | 22 => 24 | 25 => 5 | n => n, fun | n => n⟩
theorem Tryz.growb_lays : Go.Proofs.Lays8.n4 Tryz.prog Tryz.growb_ren := {
  mixed := by kernel_rfl
  f4 := ⟨"slices.Grow[[]byte,byte]", by decide, Tryz.func107.trans (congrArg some (by kernel_rfl))⟩
  t0 := Tryz.underlying0
  a0 := Tryz.isAgg0
  z0 := Tryz.sizeOf0
  v0 := Tryz.zeroValue0
  t3 := Tryz.underlying3
  a3 := Tryz.isAgg3
  z3 := Tryz.sizeOf3
  v3 := Tryz.zeroValue3
  t4 := Tryz.underlying4
  a4 := Tryz.isAgg4
  z4 := Tryz.sizeOf4
  v4 := Tryz.zeroValue4
  t9 := Tryz.underlying9
  a9 := Tryz.isAgg9
  z9 := Tryz.sizeOf9
  v9 := Tryz.zeroValue9
  t20 := Tryz.underlying20
  a20 := Tryz.isAgg20
  z20 := Tryz.sizeOf20
  v20 := Tryz.zeroValue20
  t22 := Tryz.underlying24
  a22 := Tryz.isAgg24
  z22 := Tryz.sizeOf24
  v22 := Tryz.zeroValue24 }
end Go.Proofs
namespace Go.Proofs
open Go.Shelf
def Tryz.grows_ren : Go.Shelf.Ren := ⟨fun | 4 => 116 | n => n, fun | 0 => 0 | 3 => 3 | 4 => 4 | 9 => 9 | 20 => 20 | 22 => 45 | 25 => 9 | n => n, fun | n => n⟩
theorem Tryz.grows_lays : Go.Proofs.Lays8.n4 Tryz.prog Tryz.grows_ren := {
  mixed := by kernel_rfl
  f4 := ⟨"slices.Grow[[]string,string]", by decide, Tryz.func116.trans (congrArg some (by kernel_rfl))⟩
  t0 := Tryz.underlying0
  a0 := Tryz.isAgg0
  z0 := Tryz.sizeOf0
  v0 := Tryz.zeroValue0
  t3 := Tryz.underlying3
  a3 := Tryz.isAgg3
  z3 := Tryz.sizeOf3
  v3 := Tryz.zeroValue3
  t4 := Tryz.underlying4
  a4 := Tryz.isAgg4
  z4 := Tryz.sizeOf4
  v4 := Tryz.zeroValue4
  t9 := Tryz.underlying9
  a9 := Tryz.isAgg9
  z9 := Tryz.sizeOf9
  v9 := Tryz.zeroValue9
  t20 := Tryz.underlying20
  a20 := Tryz.isAgg20
  z20 := Tryz.sizeOf20
  v20 := Tryz.zeroValue20
  t22 := Tryz.underlying45
  a22 := Tryz.isAgg45
  z22 := Tryz.sizeOf45
  v22 := Tryz.zeroValue45 }
end Go.Proofs
namespace Go.Proofs.YtbighilgkmfemaaGreatDoor
open Go.RowKit Go.Lib Go.Shelf
set_option linter.unusedVariables false
set_option linter.unusedSimpArgs false

theorem pair_new (w : World) (a b : Value) (t : TypeId) : (w.alloc (.cells #[a, b] t)).cell? ⟨w.heap.size, 0, none⟩ = some a ∧ (w.alloc (.cells #[a, b] t)).cell? ⟨w.heap.size, 1, none⟩ = some b := by
  have h := one_newN w #[a, b] t
  constructor <;> (unfold World.cell?; rw [h]; rfl)
theorem bgrow_any (n : Nat) (w : World) (hn : n ≤ 200000) : Calls Tryz.prog 107 #[.slice none 0 0, .int .i64 (n : Int)] w fun e w' => ∃ v, e = .returned v ∧ BOwns w' w.heap.size v 0 [] ∧ Below w.heap.size w w' := by
  by_cases h0 : n = 0
  · subst h0
    refine (Any8.slices_Grow_room Tryz.growb_lays none 0 0 0 w (Nat.le_refl _) (by decide) (by decide) (by decide)).mono ?_
    rintro e w1 ⟨rfl, rfl⟩
    exact ⟨_, rfl, ⟨rfl, .inl ⟨rfl, rfl⟩⟩, Below.refl _ _⟩
  · obtain ⟨i0, hi, hz0, hz1, hz2⟩ := info_parts info_u8
    have h := Any8.slices_Grow_grow Tryz.growb_lays i0 _ hi hz0 (by rw [hz1]; decide) none 0 0 n [] w (Nat.le_refl _) (by omega) (by rw [hz2]; omega) (by omega) (by simp) (fun _ => rfl) (fun a e => by cases e)
    refine h.mono ?_
    rintro e w1 ⟨rfl, rfl⟩
    refine ⟨_, rfl, ⟨rfl, .inr ⟨w.heap.size, _, _, rfl, Nat.le_refl _, one_newN w.drew _ _, Nat.zero_le _, grownCap_le_maxLen _ _ _ _ (by unfold maxLen; omega), ?_, by simp [u8s]⟩⟩, ?_⟩
    · have hge := grownCap_ge w (0 + n) 0 (Tryz.growb_ren.t 25)
      obtain ⟨G, hG⟩ : ∃ G, grownCap w (0 + n) 0 (Tryz.growb_ren.t 25) = G := ⟨_, rfl⟩
      rw [hG] at hge ⊢
      simp [Builtin.zeroCells, Value.cells]
      omega
    · exact (⟨rfl, rfl, rfl, Nat.le_refl _, fun _ _ => rfl⟩ : Below w.heap.size w w.drew).alloc (Nat.le_refl _) _
set_option maxRecDepth 100000 in
set_option maxHeartbeats 4000000 in
theorem bcat_any (A A' : Option Addr) (n c n' c' : Nat) (l l' : List UInt8) (g : Nat) (w : World) (H0 : w.cell? ⟨g, 0, none⟩ = some (.slice A n c)) (H1 : w.cell? ⟨g, 1, none⟩ = some (.slice A' n' c'))
    (h : Byt w (.slice A n c) l) (h' : Byt w (.slice A' n' c') l') (hl : l.length ≤ 100000) (hl' : l'.length ≤ 100000) :
    Calls Tryz.prog 76 #[.slice (some ⟨g, 0, none⟩) 2 2] w fun e w' => ∃ v, e = .returned v ∧ BOwns w' w.heap.size v (l ++ l').length (l ++ l') ∧ Below w.heap.size w w' := by
  have e1 := h.len
  have e2 := h'.len
  subst e1 e2
  have X := Lib.hid h
  have Y := Lib.hid h'
  have hs : IntKind.i64.wrap ((l.length : Int) + (l'.length : Int)) = ((l.length + l'.length : Nat) : Int) := by
    rw [IntWalk.i64_in _ ⟨by omega, by omega⟩]
    simp
  have hp : decide (((l.length + l'.length : Nat) : Int) < 0) = false := by simp; omega
  have hp0 : decide ((l.length : Int) < 0) = false := by simp
  have HG := Lib.hid (bgrow_any (l.length + l'.length) w (by omega))
  clear h h'
  go_enter Tryz.func76, Tryz.ntmps76
  go_wp2_with fail
  refine wp_loop_rounds 3 ?_
  iterate 3 (rw [rounds_succ]; go_wp2_with fail)
  refine HG.out.mono ?_
  rintro e w1 ⟨v0, rfl, o0, b0⟩
  have O0 := Lib.hid o0
  have B0 := Lib.hid b0
  have K0 : w1.cell? ⟨g, 0, none⟩ = some (.slice A l.length c) := (b0.cell (p := ⟨g, 0, none⟩) (World.block_lt_of_cell? _ _ H0)).trans H0
  have X1 := Lib.hid (X.out.keep b0)
  have HS := Lib.hid b0.size
  have HH := Lib.hid H1
  clear o0 b0 H0 H1 X HG
  go_wp2_with fail
  refine wp_loop_rounds 3 ?_
  rw [rounds_succ]
  go_wp2_with (at_builtin; (refine wpList_bapp rfl _ _ rfl w.heap.size v0 0 [] rfl O0.out A l.length c l rfl X1.out (by omega) HS.out w B0.out (Nat.le_refl _) ?_; intro v1 w2 o1 b1 g1))
  have O1 := Lib.hid o1
  have B1 := Lib.hid b1
  have K1 : w2.cell? ⟨g, 1, none⟩ = some (.slice A' l'.length c') := (b1.cell (p := ⟨g, 1, none⟩) (World.block_lt_of_cell? _ _ HH.out)).trans HH.out
  have Y1 := Lib.hid (Y.out.keep b1)
  have HS1 := Lib.hid b1.size
  clear o1 b1 g1 K0 X1 O0 B0 HS
  rw [rounds_succ]
  go_wp2_with (at_builtin; (refine wpList_bapp rfl _ _ rfl w.heap.size v1 (0 + l.length) ([] ++ l) rfl O1.out A' l'.length c' l' rfl Y1.out (by omega) HS1.out w B1.out (Nat.le_refl _) ?_; intro v2 w3 o2 b2 g2))
  have O2 := Lib.hid o2
  have B2 := Lib.hid b2
  clear o2 b2 g2 K1 Y1 O1 B1 HS1
  rw [rounds_succ]
  go_wp2_with fail
  go_ret
  refine ⟨v2, rfl, ?_, B2.out⟩
  have := O2.out
  rw [Nat.zero_add, List.nil_append, ← List.length_append] at this
  exact this
theorem sgrow_any (n : Nat) (w : World) (hn : n ≤ 200000) : Calls Tryz.prog 116 #[.slice none 0 0, .int .i64 (n : Int)] w fun e w' => ∃ v, e = .returned v ∧ SOwns w' w.heap.size v 0 [] ∧ Below w.heap.size w w' := by
  by_cases h0 : n = 0
  · subst h0
    refine (Any8.slices_Grow_room Tryz.grows_lays none 0 0 0 w (Nat.le_refl _) (by decide) (by decide) (by decide)).mono ?_
    rintro e w1 ⟨rfl, rfl⟩
    exact ⟨_, rfl, ⟨rfl, .inl ⟨rfl, rfl⟩⟩, Below.refl _ _⟩
  · obtain ⟨i0, hi, hz0, hz1, hz2⟩ := info_parts info_str
    have h := Any8.slices_Grow_grow Tryz.grows_lays i0 _ hi hz0 (by rw [hz1]; decide) none 0 0 n [] w (Nat.le_refl _) (by omega) (by rw [hz2]; omega) (by omega) (by simp) (fun _ => rfl) (fun a e => by cases e)
    refine h.mono ?_
    rintro e w1 ⟨rfl, rfl⟩
    refine ⟨_, rfl, ⟨rfl, .inr ⟨w.heap.size, _, _, rfl, Nat.le_refl _, one_newN w.drew _ _, Nat.zero_le _, grownCap_le_maxLen _ _ _ _ (by unfold maxLen; omega), ?_, by simp [sts]⟩⟩, ?_⟩
    · have hge := grownCap_ge w (0 + n) 0 (Tryz.grows_ren.t 25)
      obtain ⟨G, hG⟩ : ∃ G, grownCap w (0 + n) 0 (Tryz.grows_ren.t 25) = G := ⟨_, rfl⟩
      rw [hG] at hge ⊢
      simp [Builtin.zeroCells, Value.cells]
      omega
    · exact (⟨rfl, rfl, rfl, Nat.le_refl _, fun _ _ => rfl⟩ : Below w.heap.size w w.drew).alloc (Nat.le_refl _) _
set_option maxRecDepth 100000 in
set_option maxHeartbeats 4000000 in
theorem scat_any (A A' : Option Addr) (n c n' c' : Nat) (l l' : List (List UInt8)) (g : Nat) (w : World) (H0 : w.cell? ⟨g, 0, none⟩ = some (.slice A n c)) (H1 : w.cell? ⟨g, 1, none⟩ = some (.slice A' n' c'))
    (h : Sts w (.slice A n c) l) (h' : Sts w (.slice A' n' c') l') (hl : l.length ≤ 100000) (hl' : l'.length ≤ 100000) :
    Calls Tryz.prog 87 #[.slice (some ⟨g, 0, none⟩) 2 2] w fun e w' => ∃ v, e = .returned v ∧ SOwns w' w.heap.size v (l ++ l').length (l ++ l') ∧ Below w.heap.size w w' := by
  have e1 := h.len
  have e2 := h'.len
  subst e1 e2
  have X := Lib.hid h
  have Y := Lib.hid h'
  have hs : IntKind.i64.wrap ((l.length : Int) + (l'.length : Int)) = ((l.length + l'.length : Nat) : Int) := by
    rw [IntWalk.i64_in _ ⟨by omega, by omega⟩]
    simp
  have hp : decide (((l.length + l'.length : Nat) : Int) < 0) = false := by simp; omega
  have hp0 : decide ((l.length : Int) < 0) = false := by simp
  have HG := Lib.hid (sgrow_any (l.length + l'.length) w (by omega))
  clear h h'
  go_enter Tryz.func87, Tryz.ntmps87
  go_wp2_with fail
  refine wp_loop_rounds 3 ?_
  iterate 3 (rw [rounds_succ]; go_wp2_with fail)
  refine HG.out.mono ?_
  rintro e w1 ⟨v0, rfl, o0, b0⟩
  have O0 := Lib.hid o0
  have B0 := Lib.hid b0
  have K0 : w1.cell? ⟨g, 0, none⟩ = some (.slice A l.length c) := (b0.cell (p := ⟨g, 0, none⟩) (World.block_lt_of_cell? _ _ H0)).trans H0
  have X1 := Lib.hid (X.out.keep b0)
  have HS := Lib.hid b0.size
  have HH := Lib.hid H1
  clear o0 b0 H0 H1 X HG
  go_wp2_with fail
  refine wp_loop_rounds 3 ?_
  rw [rounds_succ]
  go_wp2_with (at_builtin; (refine wpList_sapp rfl _ _ rfl w.heap.size v0 0 [] rfl O0.out A l.length c l rfl X1.out (by omega) HS.out w B0.out (Nat.le_refl _) ?_; intro v1 w2 o1 b1 g1))
  have O1 := Lib.hid o1
  have B1 := Lib.hid b1
  have K1 : w2.cell? ⟨g, 1, none⟩ = some (.slice A' l'.length c') := (b1.cell (p := ⟨g, 1, none⟩) (World.block_lt_of_cell? _ _ HH.out)).trans HH.out
  have Y1 := Lib.hid (Y.out.keep b1)
  have HS1 := Lib.hid b1.size
  clear o1 b1 g1 K0 X1 O0 B0 HS
  rw [rounds_succ]
  go_wp2_with (at_builtin; (refine wpList_sapp rfl _ _ rfl w.heap.size v1 (0 + l.length) ([] ++ l) rfl O1.out A' l'.length c' l' rfl Y1.out (by omega) HS1.out w B1.out (Nat.le_refl _) ?_; intro v2 w3 o2 b2 g2))
  have O2 := Lib.hid o2
  have B2 := Lib.hid b2
  clear o2 b2 g2 K1 Y1 O1 B1 HS1
  rw [rounds_succ]
  go_wp2_with fail
  go_ret
  refine ⟨v2, rfl, ?_, B2.out⟩
  have := O2.out
  rw [Nat.zero_add, List.nil_append, ← List.length_append] at this
  exact this
end Go.Proofs.YtbighilgkmfemaaGreatDoor

/- Contracts of the document's Add, Cut. -/
namespace Go.Proofs.YtbighilgkmfemaaGreatDoor
open Go.RowKit
set_option linter.unusedVariables false
set_option linter.unusedSimpArgs false

/-- What Add, Flag, Cut answer. -/
abbrev DictOut (l' : List Wr) (k : Int) (w : World) (e : Ending) (w' : World) : Prop := ∃ A' n' c', e = .returned (.tuple #[.slice A' n' c', .int .i64 k]) ∧ Wds w' (.slice A' n' c') l' ∧ Below w.heap.size w w'

end Go.Proofs.YtbighilgkmfemaaGreatDoor

/- The contract of the document's Flag. -/
namespace Go.Proofs.YtbighilgkmfemaaGreatDoor
open Go.RowKit
set_option linter.unusedVariables false
set_option linter.unusedSimpArgs false

theorem WOwns.block {w : World} {base n : Nat} {v : Value} {l : List Wr} (h : WOwns w base v n l) (hn : 0 < n) : ∃ g cap, v = .slice (some ⟨g, 0, none⟩) n cap ∧ base ≤ g ∧ g < w.heap.size ∧ ∀ k, k < n → (∃ x, w.cell? ⟨g, k * 3 + 2, none⟩ = some x) ∧ w.frozen? ⟨g, k * 3 + 2, none⟩ = false := by
  rcases h.2 with ⟨_, h0⟩ | ⟨g, cap, cur, e, hb, hg, hnc, hcm, hcs, ht⟩
  · omega
  · refine ⟨g, cap, e, hb, (Array.getElem?_eq_some_iff.1 hg).1, fun k hk => ?_⟩
    have hks : k * 3 + 2 < cur.size := by omega
    refine ⟨⟨cur[k * 3 + 2], by simp [World.cell?, hg, hks]⟩, by simp [World.frozen?, hg]⟩
end Go.Proofs.YtbighilgkmfemaaGreatDoor

/- Contracts of lex's turner, of the closure that it makes, of Upper and Alike. -/
namespace Go.Proofs.YtbighilgkmfemaaGreatDoor
open Go.RowKit
set_option linter.unusedVariables false
set_option linter.unusedSimpArgs false

/-- The boxes that the closure holds. -/
def Tn (w : World) (p q r : Addr) : Prop := w.cell? p = some (.int .u8 97) ∧ w.cell? q = some (.int .u8 122) ∧ w.cell? r = some (.int .u8 65)
/-- .. in blocks of a world. -/
def TnB (w : World) (p q r : Nat) : Prop := Tn w ⟨p, 0, none⟩ ⟨q, 0, none⟩ ⟨r, 0, none⟩ ∧ p < w.heap.size ∧ q < w.heap.size ∧ r < w.heap.size
theorem TnB.keep {w w' : World} {p q r : Nat} (h : TnB w p q r) (b : Below w.heap.size w w') : TnB w' p q r := by
  obtain ⟨⟨h1, h2, h3⟩, h4, h5, h6⟩ := h
  have hz := b.size
  exact ⟨⟨(b.cell (p := ⟨p, 0, none⟩) h4).trans h1, (b.cell (p := ⟨q, 0, none⟩) h5).trans h2, (b.cell (p := ⟨r, 0, none⟩) h6).trans h3⟩, by omega, by omega, by omega⟩

/-- A row of bytes in block g, with room behind it. -/
def Rw (w : World) (g C : Nat) (l : List UInt8) : Prop := ∃ X : Array Value, w.heap[g]? = some (.cells ((u8s l).toArray ++ X) 5 (C, C + 1)) ∧ l.length ≤ C ∧ C ≤ maxLen
theorem Rw.lt {w : World} {g C : Nat} {l : List UInt8} (h : Rw w g C l) : g < w.heap.size := by
  obtain ⟨X, h1, _⟩ := h
  exact (Array.getElem?_eq_some_iff.1 h1).1
theorem Rw.use {w : World} {g C : Nat} {l : List UInt8} (h : Rw w g C l) {k : Nat} {c : UInt8} (hk : l[k]? = some c) : w.cell? ⟨g, k, none⟩ = some (.int .u8 (c.toNat : Int)) ∧ w.frozen? ⟨g, k, none⟩ = false := by
  obtain ⟨X, h1, h2, h3⟩ := h
  have hkl := (List.getElem?_eq_some_iff.1 hk).1
  have e : ((u8s l).toArray ++ X)[k]? = some (.int .u8 (c.toNat : Int)) := by
    rw [Array.getElem?_append_left (by simpa [u8s] using hkl)]
    simp [u8s, hk]
  refine ⟨by simp [World.cell?, h1, e], ?_⟩
  simp [World.frozen?, h1]
  omega
theorem Rw.keep {w w' : World} {g C : Nat} {l : List UInt8} (h : Rw w g C l) (b : Below w.heap.size w w') : Rw w' g C l := by
  have hl := h.lt
  obtain ⟨X, h1, h2⟩ := h
  exact ⟨X, (b.block g hl).trans h1, h2⟩
theorem Rw.set {w : World} {g C : Nat} {l : List UInt8} (h : Rw w g C l) {k : Nat} (hk : k < l.length) (c : UInt8) : Rw (w.setCell ⟨g, k, none⟩ (.int .u8 (c.toNat : Int))) g C (l.set k c) := by
  obtain ⟨X, h1, h2, h3⟩ := h
  obtain ⟨hlt, hc⟩ := Array.getElem?_eq_some_iff.1 h1
  refine ⟨X, ?_, by rw [List.length_set]; exact h2, h3⟩
  show (w.heap.modify g _)[g]? = _
  rw [Array.getElem?_eq_getElem (by rw [Array.size_modify]; exact hlt), Array.getElem_modify_self, hc]
  simp [u8s, List.set_append_left, hk, List.map_set]
theorem Rw.byt {w : World} {g C : Nat} {l : List UInt8} (h : Rw w g C l) : Byt w (.slice (some ⟨g, 0, none⟩) l.length C) l := by
  have hlt := h.lt
  refine ⟨_, _, rfl, h.choose_spec.2.1, h.choose_spec.2.2, .inr ⟨g, 0, rfl, hlt, fun j v hv => ?_⟩⟩
  unfold u8s at hv
  rw [List.getElem?_map] at hv
  cases hj : l[j]? with
  | none => rw [hj] at hv; simp at hv
  | some c =>
    rw [hj] at hv
    have : v = .int .u8 (c.toNat : Int) := by simpa using hv.symm
    rw [this, Nat.zero_add]
    exact (h.use hj).1

set_option maxRecDepth 100000 in
theorem conv_own (t : List UInt8) (w : World) (ht : t.length ≤ 1000000) : ∃ c w', (convert 9 24 (.string (strB t))).run Tryz.prog w = .ok (.slice (some ⟨w.heap.size, 0, none⟩) t.length c) w' ∧ Rw w' w.heap.size c t ∧ Below w.heap.size w w' := by
  have hsz : (strB t).size = t.length := rfl
  have h := run_bytes_of_string (P := Tryz.prog) w 9 24 5 (strB t) Tryz.underlying9 Tryz.underlying24 Tryz.underlying5
  rw [hsz] at h
  have hge := grownCap_ge w t.length 0 5
  refine ⟨_, _, h, ?_, (Below.refl _ w).drew.alloc (Nat.le_refl _) _⟩
  have hz : (bytesRow (strB t) (grownCap w t.length 0 5)).size = grownCap w t.length 0 5 := by
    unfold bytesRow
    rw [Array.size_append, Array.size_map, Array.size_replicate]
    show t.length + _ = _
    rw [hsz]
    omega
  rw [hz]
  refine ⟨Array.replicate (grownCap w t.length 0 5 - (strB t).size) (.int .u8 0), ?_, hge, grownCap_le_maxLen _ _ _ _ (by unfold maxLen; omega)⟩
  show (w.heap.push _)[w.heap.size]? = _
  simp [bytesRow, strB, u8s]
end Go.Proofs.YtbighilgkmfemaaGreatDoor

/- Contracts of dict's areFlags, hasBlank (with its row function and closure), nameCode. -/
namespace Go.Proofs.YtbighilgkmfemaaGreatDoor
open Go.RowKit
set_option linter.unusedVariables false
set_option linter.unusedSimpArgs false

set_option maxHeartbeats 1000000 in
theorem areflags_any (f : Int) (w : World) : Calls Tryz.prog 97 #[.int .i64 f] w fun e w' => e = .returned (.bool (flagB f)) ∧ w = w' := by
  by_cases h0 : 0 ≤ f
  · by_cases h7 : f ≤ 7
    · have H := Lib.hid ((flagB_iff f).2 ⟨h0, h7⟩)
      rw [H.out]
      go_enter Tryz.func97, Tryz.ntmps97
      go_wp2
      go_ret
      exact ⟨rfl, rfl⟩
    · have H := Lib.hid ((flagB_no f).2 (fun h => h7 h.2))
      have h7' : decide (f ≤ 7) = false := by simpa using h7
      rw [H.out]
      go_enter Tryz.func97, Tryz.ntmps97
      go_wp2
      go_ret
      exact ⟨rfl, rfl⟩
  · have H := Lib.hid ((flagB_no f).2 (fun h => h0 h.1))
    have h0' : decide (0 ≤ f) = false := by simpa using h0
    rw [H.out]
    go_enter Tryz.func97, Tryz.ntmps97
    go_wp2
    go_ret
    exact ⟨rfl, rfl⟩

set_option maxHeartbeats 1000000 in
theorem blank_any (c : UInt8) (w : World) : Calls Tryz.prog 127 #[.int .u8 (c.toNat : Int)] w fun e w' => e = .returned (.bool (!solid c)) ∧ w = w' := by
  have hc := c.toNat_lt
  by_cases h : 32 < c.toNat
  · have H := Lib.hid (solid_yes h)
    have h1 : decide ((c.toNat : Int) ≤ 32) = false := by simp; omega
    rw [H.out]
    go_enter Tryz.func127, Tryz.ntmps127
    go_wp2
    go_ret
    exact ⟨rfl, rfl⟩
  · have H := Lib.hid (solid_no h)
    have h1 : (c.toNat : Int) ≤ 32 := by omega
    have h2 : c.toNat ≤ 32 := by omega
    rw [H.out]
    go_enter Tryz.func127, Tryz.ntmps127
    go_wp2
    go_ret
    exact ⟨rfl, rfl⟩

theorem all_drop_no {l : List UInt8} {k : Nat} {c : UInt8} (hc : l[k]? = some c) (hs : solid c = false) : l.all solid = false := dall_no hc hs
theorem all_drop_step {l : List UInt8} {k : Nat} {c : UInt8} (hc : l[k]? = some c) (hs : solid c = true) (h : (l.drop (k + 1)).all solid = true) : (l.drop k).all solid = true := by
  have hk := (List.getElem?_eq_some_iff.1 hc).1
  rw [List.drop_eq_getElem_cons hk, (List.getElem?_eq_some_iff.1 hc).2, List.all_cons, hs, h]
  rfl

set_option maxRecDepth 100000 in
set_option maxHeartbeats 4000000 in
theorem lastb_any (A : Option Addr) (n c : Nat) (l : List UInt8) (w : World) (h : Byt w (.slice A n c) l) (hn : n ≤ 100000) : Calls Tryz.prog 126 #[.slice A n c, .func (.func 127) #[] #[]] w fun e w' => (∃ (x k : Int), e = .returned (.tuple #[.int .u8 x, .int .i64 k, .bool (!l.all solid)])) ∧ Below w.heap.size w w' := by
  have hl := h.len
  subst hl
  have HA := Lib.hid h
  have HN : Hid (l.length ≤ 100000) := hn
  have hw1 : wrap64 ((l.length : Int) - 1) = (l.length : Int) - 1 := w64_id (by omega) (by omega)
  clear h hn
  go_enter Tryz.func126, Tryz.ntmps126
  go_wp2_with fail
  try rw [hw1]
  clear hw1
  go_loopw [7] (fun s7 wr => ∃ (k : Nat) (i : Int), s7 = .int .i64 i ∧ i = (k : Int) - 1 ∧ k ≤ l.length ∧ Hid ((l.drop k).all solid = true) ∧ Hid (Below w.heap.size w wr)) (fun s7 _ => (intOf s7 + 1).toNat)
  case atStart => exact ⟨l.length, _, rfl, rfl, Nat.le_refl _, Lib.hid (by rw [List.drop_length]; rfl), Lib.hid (Below.refl _ _)⟩
  case round =>
    obtain ⟨k, i, rfl, hi, hk, HL, HB⟩ := hrel
    cases k with
    | zero =>
      have hi1 : decide (0 ≤ i) = false := by simp; omega
      have H : Hid (l.all solid = true) := by have := HL.out; rwa [List.drop_zero] at this
      clear hi HL hk
      go_wp2_with fail
      rw [H.out]
      refine bodyPost_ret (v := .tuple #[.int .u8 0, .int .i64 0, .bool (!true)]) ?_ rfl ?_
      · simp [results, Tryz.results126, go_sem]
      · exact ⟨⟨_, _, rfl⟩, HB.out⟩
    | succ k =>
      obtain rfl : i = (k : Int) := by omega
      have hkl : k < l.length := by omega
      have hx : l[k]? = some l[k] := List.getElem?_eq_getElem hkl
      obtain ⟨q, eq⟩ : ∃ q, l[k] = q := ⟨_, rfl⟩
      rw [eq] at hx
      have hkl' : (k : Int) < (l.length : Int) := by omega
      have hln := HN.out
      have HK := Lib.hid (fun w => blank_any q w)
      have HXK := Lib.hid hx
      obtain ⟨g, o, hA, c1⟩ : ∃ g o, A = some ⟨g, o, none⟩ ∧ wr.cell? ⟨g, o + k, none⟩ = some (.int .u8 (q.toNat : Int)) := by
        rcases (HA.out.keep HB.out).lies with h | ⟨g, o, e, _, hc⟩
        · have := congrArg List.length h
          rw [u8s_len] at this
          have h0 : l.length = 0 := this
          omega
        · exact ⟨g, o, e, hc _ _ (by unfold u8s; rw [List.getElem?_map, hx]; rfl)⟩
      subst hA
      clear hx eq hi hk
      cases hs : solid q with
      | false =>
        have H := Lib.hid (all_drop_no HXK.out hs)
        rw [hs] at HK
        clear hs HL
        go_wp2_with fail
        refine (HK.out _).mono ?_
        rintro e1 w5 ⟨rfl, rfl⟩
        go_wp2_with fail
        rw [H.out]
        refine bodyPost_ret (v := .tuple #[.int .u8 (q.toNat : Int), .int .i64 (k : Int), .bool (!false)]) ?_ rfl ?_
        · simp [results, Tryz.results126, go_sem]
        · exact ⟨⟨_, _, rfl⟩, HB.out⟩
      | true =>
        have HN2 := Lib.hid (all_drop_step HXK.out hs HL.out)
        rw [hs] at HK
        clear hs HL
        go_wp2_with fail
        refine (HK.out _).mono ?_
        rintro e1 w5 ⟨rfl, rfl⟩
        go_wp2_with fail
        go_roundw
        case rel => exact ⟨k, _, rfl, (by first | rfl | exact w64_id (by omega) (by omega)), by omega, HN2, HB⟩
        case measure => first | (simp [intOf]; done) | (simp [intOf]; omega) | (rw [w64_id (by omega) (by omega)]; simp [intOf])

set_option maxRecDepth 100000 in
set_option maxHeartbeats 4000000 in
theorem hasblank_any (l : List UInt8) (w : World) (hl : l.length ≤ 100000) : Calls Tryz.prog 121 #[.string (strB l)] w fun e w' => e = .returned (.bool (!l.all solid)) ∧ Below w.heap.size w w' := by
  obtain ⟨C, w2, hcv, hrw, b2⟩ := conv_own l w (by omega)
  have HY := Lib.hid hrw.byt
  have HB := Lib.hid b2
  clear hrw b2
  go_enter Tryz.func121, Tryz.ntmps121
  go_wp2_with fail
  refine (lastb_any _ _ _ l w2 HY.out hl).mono ?_
  rintro e1 w5 ⟨⟨x, k, rfl⟩, b5⟩
  have HB5 := Lib.hid (below_then HB.out b5)
  clear b5
  go_wp2_with fail
  go_ret
  exact ⟨rfl, HB5.out⟩

set_option maxRecDepth 100000 in
set_option maxHeartbeats 4000000 in
theorem namecode_any (l : List UInt8) (w : World) : Calls Tryz.prog 96 #[.string (strB l)] w fun e w' => e = .returned (.int .i64 (namedC l)) ∧ Below w.heap.size w w' := by
  have hsz : (strB l).size = l.length := rfl
  by_cases h0 : l = []
  · subst h0
    have H : Hid (namedC [] = -16) := by show _ = _; rfl
    rw [H.out, show strB [] = ⟨#[]⟩ from rfl]
    go_enter Tryz.func96, Tryz.ntmps96
    go_wp2_with fail
    go_ret
    exact ⟨rfl, Below.refl _ _⟩
  · have he := str_ne (a := strB l) (b := strB []) (fun e => h0 (strB_inj e))
    have he2 := str_emp h0
    by_cases h31 : 31 < l.length
    · have H : Hid (namedC l = -19) := by show _ = _; unfold namedC; rw [if_neg h0, if_pos h31]
      have h31' : (31 : Int) < (l.length : Int) := by omega
      rw [H.out]
      go_enter Tryz.func96, Tryz.ntmps96
      go_wp2_with fail
      go_ret
      exact ⟨rfl, Below.refl _ _⟩
    · have h31' : decide ((31 : Int) < (l.length : Int)) = false := by simp; omega
      have HC := Lib.hid (fun w => hasblank_any l w (by omega))
      have H : Hid (namedC l = if l.all solid = true then 0 else -32) := by show _ = _; unfold namedC; rw [if_neg h0, if_neg h31]
      rw [H.out]
      cases hs : l.all solid with
      | true =>
        rw [hs] at HC
        clear h31 hs
        go_enter Tryz.func96, Tryz.ntmps96
        go_wp2_with fail
        refine (HC.out _).mono ?_
        rintro e1 w5 ⟨rfl, b5⟩
        have HB5 := Lib.hid b5
        clear b5
        go_wp2_with fail
        go_ret
        exact ⟨rfl, HB5.out⟩
      | false =>
        rw [hs] at HC
        clear h31 hs
        go_enter Tryz.func96, Tryz.ntmps96
        go_wp2_with fail
        refine (HC.out _).mono ?_
        rintro e1 w5 ⟨rfl, b5⟩
        have HB5 := Lib.hid b5
        clear b5
        go_wp2_with fail
        go_ret
        exact ⟨rfl, HB5.out⟩
end Go.Proofs.YtbighilgkmfemaaGreatDoor

/- Contracts of dict's closures, and of its row function with each of them. -/
namespace Go.Proofs.YtbighilgkmfemaaGreatDoor
open Go.RowKit
set_option linter.unusedVariables false
set_option linter.unusedSimpArgs false

abbrev wv (q : Wr) : Value := .agg #[.string (strB q.nm), .int .i64 q.xt, .int .i64 q.fl]

set_option maxRecDepth 100000 in
set_option maxHeartbeats 4000000 in
theorem wrong_any (q : Wr) (w : World) : Calls Tryz.prog 95 #[wv q] w fun e w' => e = .returned (.bool (!wordB q)) ∧ Below w.heap.size w w' := by
  have HN := Lib.hid (fun w => namecode_any q.nm w)
  have HF := Lib.hid (fun w => areflags_any q.fl w)
  obtain ⟨z, ez⟩ : ∃ z, namedC q.nm = z := ⟨_, rfl⟩
  have HZ := Lib.hid ez
  rw [ez] at HN
  obtain ⟨W, hW⟩ : ∃ W, w.alloc (.cells #[.string (strB q.nm), .int .i64 q.xt, .int .i64 q.fl] 66) = W := ⟨_, rfl⟩
  have hB := al_one w (.cells #[.string (strB q.nm), .int .i64 q.xt, .int .i64 q.fl] 66)
  have hX := wbox_new w q
  rw [hW] at hB hX
  have HX := Lib.hid hX
  have HB := Lib.hid hB
  have HW := Lib.hid hW
  clear hB hX hW ez
  by_cases hz : z = 0
  · subst hz
    have H : Hid (wordB q = flagB q.fl) := by show _ = _; unfold wordB; rw [HZ.out]; rfl
    rw [H.out]
    obtain ⟨fb, efb⟩ : ∃ fb, flagB q.fl = fb := ⟨_, rfl⟩
    rw [efb] at HF ⊢
    clear efb
    unfold wv
    go_enter Tryz.func95, Tryz.ntmps95
    go_wp2_with fail
    rw [HW.out]
    obtain ⟨z0, z1, z2, z3, z4, z5⟩ := HX.out.use
    have lz := HX.out.lt
    go_wp2_with fail
    refine (HN.out _).mono ?_
    rintro e1 w5 ⟨rfl, b5⟩
    have XZ5 := Lib.hid (HX.out.keep b5)
    have HB5 := Lib.hid (below_then HB.out b5)
    clear b5 z0 z1 z2 z3 z4 z5 lz
    obtain ⟨z0, z1, z2, z3, z4, z5⟩ := XZ5.out.use
    have lz := XZ5.out.lt
    go_wp2_with fail
    refine (HF.out _).mono ?_
    rintro e1 w6 ⟨rfl, rfl⟩
    go_wp2_with fail
    go_ret
    exact ⟨rfl, HB5.out⟩
  · have H : Hid (wordB q = false) := by show _ = _; unfold wordB; rw [HZ.out]; simp [hz]
    have hz1 : ((z : Int) != 0) = true := by simpa using hz
    have hz2 : ((z : Int) == 0) = false := by simpa using hz
    rw [H.out]
    unfold wv
    go_enter Tryz.func95, Tryz.ntmps95
    go_wp2_with fail
    rw [HW.out]
    obtain ⟨z0, z1, z2, z3, z4, z5⟩ := HX.out.use
    have lz := HX.out.lt
    go_wp2_with fail
    refine (HN.out _).mono ?_
    rintro e1 w5 ⟨rfl, b5⟩
    have XZ5 := Lib.hid (HX.out.keep b5)
    have HB5 := Lib.hid (below_then HB.out b5)
    clear b5 z0 z1 z2 z3 z4 z5 lz
    obtain ⟨z0, z1, z2, z3, z4, z5⟩ := XZ5.out.use
    have lz := XZ5.out.lt
    go_wp2_with fail
    go_ret
    exact ⟨rfl, HB5.out⟩

end Go.Proofs.YtbighilgkmfemaaGreatDoor

/- Contracts of dict's row function, with each of three closures. -/
namespace Go.Proofs.YtbighilgkmfemaaGreatDoor
open Go.RowKit
set_option linter.unusedVariables false
set_option linter.unusedSimpArgs false

set_option maxRecDepth 100000 in
set_option maxHeartbeats 4000000 in
theorem last_wrong (A : Option Addr) (n c : Nat) (l : List Wr) (p : Wr → Bool) (w : World) (h : Wds w (.slice A n c) l) (hn : n ≤ 100000) (hc : ∀ q ∈ l, ∀ w1, Below w.heap.size w w1 → Calls Tryz.prog 95 #[wv q] w1 fun e w2 => e = .returned (.bool (p q)) ∧ Below w1.heap.size w1 w2) : Calls Tryz.prog 94 #[.slice A n c, .func (.func 95) #[] #[]] w (GotOut (gotW l (lastI p l)) (gotI (lastI p l)) (lastI p l).isSome w) := by
  have hl := h.len
  subst hl
  have HA := Lib.hid h
  have HN : Hid (l.length ≤ 100000) := hn
  have HC : Hid (∀ q ∈ l, ∀ w1, Below w.heap.size w w1 → Calls Tryz.prog 95 #[.agg #[.string (strB q.nm), .int .i64 q.xt, .int .i64 q.fl]] w1 fun e w2 => e = .returned (.bool (p q)) ∧ Below w1.heap.size w1 w2) := hc
  have hw1 : wrap64 ((l.length : Int) - 1) = (l.length : Int) - 1 := w64_id (by omega) (by omega)
  clear h hn hc
  unfold GotOut
  go_enter Tryz.func94, Tryz.ntmps94
  go_wp2_with fail
  try rw [hw1]
  clear hw1
  obtain ⟨W, hW⟩ : ∃ W, w.alloc (.cells #[.string ⟨#[]⟩, .int .i64 0, .int .i64 0] 66) = W := ⟨_, rfl⟩
  have hB := al_one w (.cells #[.string ⟨#[]⟩, .int .i64 0, .int .i64 0] 66)
  have hX := wbox_zero w
  rw [hW] at hB hX
  have HX := Lib.hid hX
  have HB := Lib.hid hB
  have HW := Lib.hid hW
  rw [HW.out]
  clear hB hX hW
  go_loopw [7] (fun s7 wr => ∃ (k : Nat) (i : Int), s7 = .int .i64 i ∧ i = (k : Int) - 1 ∧ k ≤ l.length ∧ Hid (lastI p (l.drop k) = none) ∧ Hid (Below W.heap.size W wr)) (fun s7 _ => (intOf s7 + 1).toNat)
  case atStart => exact ⟨l.length, _, rfl, rfl, Nat.le_refl _, Lib.hid (by rw [List.drop_length]; rfl), Lib.hid (Below.refl _ _)⟩
  case round =>
    obtain ⟨k, i, rfl, hi, hk, HL, HB2⟩ := hrel
    have XZ := Lib.hid (HX.out.keep HB2.out)
    have HBB := Lib.hid (below_then HB.out HB2.out)
    obtain ⟨z0, z1, z2, z3, z4, z5⟩ := XZ.out.use
    have lz := XZ.out.lt
    cases k with
    | zero =>
      have hi1 : decide (0 ≤ i) = false := by simp; omega
      have H : Hid (lastI p l = none) := by have := HL.out; rwa [List.drop_zero] at this
      clear hi HL hk z0 z1 z2 z3 z4 z5 lz
      obtain ⟨W2, hW2⟩ : ∃ W2, wr.alloc (.cells #[.string ⟨#[]⟩, .int .i64 0, .int .i64 0] 66) = W2 := ⟨_, rfl⟩
      have hB2 := al_one wr (.cells #[.string ⟨#[]⟩, .int .i64 0, .int .i64 0] 66)
      have hX2 := wbox_zero wr
      rw [hW2] at hB2 hX2
      have XZ2 := Lib.hid (XZ.out.keep hB2)
      have HX2 := Lib.hid hX2
      have HB3 := Lib.hid (below_then HBB.out hB2)
      have HW2 := Lib.hid hW2
      clear hB2 hX2 hW2
      obtain ⟨z0, z1, z2, z3, z4, z5⟩ := XZ2.out.use
      have lz := XZ2.out.lt
      obtain ⟨y0, y1, y2, y3, y4, y5⟩ := HX2.out.use
      have ly := HX2.out.lt
      go_upto_region 7 with fail
      rw [HW2.out]
      go_wp2_with fail
      obtain ⟨r0, r1, r2, _, _, _⟩ := (XZ2.out.put w0).use
      rw [H.out]
      refine bodyPost_ret (v := .tuple #[.agg #[.string (strB w0.nm), .int .i64 w0.xt, .int .i64 w0.fl], .int .i64 0, .bool false]) ?_ rfl ?_
      · simp [results, Tryz.results94, go_sem, r0, r1, r2]
      · exact ⟨rfl, below_wset HB3.out (Nat.le_refl _) _ _ _⟩
    | succ k =>
      obtain rfl : i = (k : Int) := by omega
      have hkl : k < l.length := by omega
      obtain ⟨g, o, hA, c1, c2, c3⟩ := wds_cell (HA.out.keep (below_then HB.out HB2.out)) hkl
      have hx : l[k]? = some l[k] := List.getElem?_eq_getElem hkl
      obtain ⟨q, eq⟩ : ∃ q, l[k] = q := ⟨_, rfl⟩
      rw [eq] at c1 c2 c3 hx
      have hkl' : (k : Int) < (l.length : Int) := by omega
      have hln := HN.out
      subst hA
      have HK := Lib.hid (HC.out q (List.mem_of_getElem? hx) wr HBB.out)
      have HC2 : Hid (wr.cell? ⟨g, o + k * 3, none⟩ = some (.string (strB q.nm)) ∧ wr.cell? ⟨g, o + k * 3 + 1, none⟩ = some (.int .i64 q.xt) ∧ wr.cell? ⟨g, o + k * 3 + 2, none⟩ = some (.int .i64 q.fl)) := ⟨c1, c2, c3⟩
      have hg2 := World.block_lt_of_cell? wr ⟨g, o + k * 3, none⟩ c1
      have HXK := Lib.hid hx
      have XZ2 := XZ
      clear hx eq hi hk HBB HC
      cases hK : p q with
      | false =>
        rw [hK] at HK
        have HN2 := Lib.hid (lastI_step (p := p) HXK.out hK HL.out)
        clear hK HL
        go_wp2_with fail
        refine HK.out.mono ?_
        rintro e1 w5 ⟨rfl, b5⟩
        have HB5 := Lib.hid (below_then HB2.out b5)
        clear b5 c1 c2 c3 z0 z1 z2 z3 z4 z5 lz
        go_wp2_with fail
        go_roundw
        case rel => exact ⟨k, _, rfl, (by first | rfl | exact w64_id (by omega) (by omega)), by omega, HN2, HB5⟩
        case measure => first | (simp [intOf]; done) | (simp [intOf]; omega) | (rw [w64_id (by omega) (by omega)]; simp [intOf])
      | true =>
        rw [hK] at HK
        have H : Hid (lastI p l = some k) := lastI_at HXK.out hK HL.out
        have HG : Hid (gotW l (some k) = q) := gotW_at HXK.out
        clear hK HL
        go_wp2_with fail
        refine HK.out.mono ?_
        rintro e1 w5 ⟨rfl, b5⟩
        obtain ⟨d1, d2, d3⟩ := HC2.out
        have HC5 : Hid (w5.cell? ⟨g, o + k * 3, none⟩ = some (.string (strB q.nm)) ∧ w5.cell? ⟨g, o + k * 3 + 1, none⟩ = some (.int .i64 q.xt) ∧ w5.cell? ⟨g, o + k * 3 + 2, none⟩ = some (.int .i64 q.fl)) := ⟨(b5.cell (p := ⟨g, o + k * 3, none⟩) hg2).trans d1, (b5.cell (p := ⟨g, o + k * 3 + 1, none⟩) hg2).trans d2, (b5.cell (p := ⟨g, o + k * 3 + 2, none⟩) hg2).trans d3⟩
        have hg5 : g < w5.heap.size := Nat.lt_of_lt_of_le hg2 b5.size
        have XZ5 := Lib.hid (XZ2.out.keep b5)
        have HB5 := Lib.hid (below_then HB2.out b5)
        clear b5 d1 d2 d3 c1 c2 c3 z0 z1 z2 z3 z4 z5 lz
        obtain ⟨c1, c2, c3⟩ := HC5.out
        obtain ⟨z0, z1, z2, z3, z4, z5⟩ := XZ5.out.use
        have lz := XZ5.out.lt
        go_wp2_with fail
        obtain ⟨r0, r1, r2, _, _, _⟩ := (XZ5.out.put q).use
        rw [H.out, HG.out]
        refine bodyPost_ret (v := .tuple #[.agg #[.string (strB q.nm), .int .i64 q.xt, .int .i64 q.fl], .int .i64 (k : Int), .bool true]) ?_ rfl ?_
        · simp [results, Tryz.results94, go_sem, r0, r1, r2]
        · exact ⟨rfl, below_wset (below_then HB.out HB5.out) (Nat.le_refl _) _ _ _⟩

end Go.Proofs.YtbighilgkmfemaaGreatDoor

/- Contracts of dict's Right, Find, Of. -/
namespace Go.Proofs.YtbighilgkmfemaaGreatDoor
open Go.RowKit
set_option linter.unusedVariables false
set_option linter.unusedSimpArgs false

theorem lastI_none {p : Wr → Bool} {l : List Wr} : lastI p l = none ↔ ∀ q ∈ l, p q = false := by
  induction l with
  | nil => simp [lastI]
  | cons q r ih =>
    unfold lastI
    cases h : lastI p r with
    | some i =>
      simp
      intro _
      have hn : ¬ ∀ q ∈ r, p q = false := fun e => by rw [ih.2 e] at h; cases h
      apply Classical.byContradiction
      intro hc
      exact hn fun a ha => by
        cases hp : p a with
        | false => rfl
        | true => exact absurd ⟨a, ha, hp⟩ hc
    | none =>
      have hr := ih.1 h
      cases hq : p q with
      | true => simp [hq]
      | false =>
        simp [hq]
        exact hr
theorem lastI_right (l : List Wr) : (lastI (fun q => !wordB q) l).isSome = !l.all wordB := by
  cases h : l.all wordB with
  | true =>
    rw [List.all_eq_true] at h
    rw [lastI_none.2 fun q hq => by rw [h q hq]; rfl]
    rfl
  | false =>
    cases hl : lastI (fun q => !wordB q) l with
    | some i => rfl
    | none =>
      have := lastI_none.1 hl
      rw [List.all_eq_false] at h
      obtain ⟨q, hq, hw⟩ := h
      have h1 := this q hq
      simp at h1
      exact absurd h1 hw

set_option maxRecDepth 100000 in
set_option maxHeartbeats 4000000 in
theorem dright_any (A : Option Addr) (n c : Nat) (l : List Wr) (w : World) (h : Wds w (.slice A n c) l) (hn : n ≤ 100000) : Calls Tryz.prog 55 #[.slice A n c] w fun e w' => e = .returned (.bool (dRight l)) ∧ Below w.heap.size w w' := by
  have hl := h.len
  subst hl
  by_cases hm : 1024 < l.length
  · have H : Hid (dRight l = false) := by show _ = _; unfold dRight; rw [show decide (l.length ≤ 1024) = false by simp; omega, Bool.and_false]
    have hm' : (1024 : Int) < (l.length : Int) := by omega
    rw [H.out]
    clear h hn hm
    go_enter Tryz.func55, Tryz.ntmps55
    go_wp2_with fail
    go_ret
    exact ⟨rfl, Below.refl _ _⟩
  · have H : Hid (dRight l = !(lastI (fun q => !wordB q) l).isSome) := by show _ = _; unfold dRight; rw [show decide (l.length ≤ 1024) = true by simp; omega, Bool.and_true, lastI_right, Bool.not_not]
    have hm' : decide ((1024 : Int) < (l.length : Int)) = false := by simp; omega
    have HC := Lib.hid (last_wrong A l.length c l (fun q => !wordB q) w h hn fun q _ w1 _ => wrong_any q w1)
    obtain ⟨r, er⟩ : ∃ r, lastI (fun q => !wordB q) l = r := ⟨_, rfl⟩
    rw [er] at HC H
    rw [H.out]
    obtain ⟨q, eq⟩ : ∃ q, gotW l r = q := ⟨_, rfl⟩
    obtain ⟨i, ei⟩ : ∃ i, gotI r = i := ⟨_, rfl⟩
    obtain ⟨b, eb⟩ : ∃ b, r.isSome = b := ⟨_, rfl⟩
    rw [eq, ei, eb] at HC
    rw [eb]
    clear h hn hm er eq ei eb H
    go_enter Tryz.func55, Tryz.ntmps55
    go_wp2_with fail
    refine HC.out.mono ?_
    rintro e1 w5 ⟨rfl, b5⟩
    have HB := Lib.hid (alloc_then (o := .cells #[.string (strB q.nm), .int .i64 q.xt, .int .i64 q.fl] 66) b5)
    clear b5
    go_wp2_with fail
    go_ret
    exact ⟨rfl, HB.out⟩

end Go.Proofs.YtbighilgkmfemaaGreatDoor

/- The library's contracts of slices.Equal and slices.Clone, laid at this program's own numbers, at words. -/
namespace Go.Proofs
open Go.Shelf Go.Lib
def Tryz.weq_ren : Go.Shelf.Ren := ⟨fun | 8 => 102 | n => n, fun | 0 => 0 | 3 => 3 | 4 => 4 | 22 => 30 | 24 => 66 | n => n, fun | n => n⟩
theorem Tryz.weq_lays : Go.Proofs.SlLaysQ.n8 Tryz.prog Tryz.weq_ren := {
  mixed := by kernel_rfl
  f8 := ⟨"slices.Equal[[]detent/api.Word,detent/api.Word]", by decide, Tryz.func102.trans (congrArg some (by kernel_rfl))⟩
  t0 := Tryz.underlying0
  a0 := Tryz.isAgg0
  z0 := Tryz.sizeOf0
  v0 := Tryz.zeroValue0
  t3 := Tryz.underlying3
  a3 := Tryz.isAgg3
  z3 := Tryz.sizeOf3
  v3 := Tryz.zeroValue3
  t4 := Tryz.underlying4
  a4 := Tryz.isAgg4
  z4 := Tryz.sizeOf4
  v4 := Tryz.zeroValue4
  t22 := Tryz.underlying30
  a22 := Tryz.isAgg30
  z22 := Tryz.sizeOf30
  v22 := Tryz.zeroValue30 }
end Go.Proofs
namespace Go.Proofs.YtbighilgkmfemaaGreatDoor
open Go.RowKit Go.Lib Go.Shelf
set_option linter.unusedVariables false
set_option linter.unusedSimpArgs false
instance : Inhabited Wr := ⟨⟨[], 0, 0⟩⟩

theorem wneq : NeqAt Tryz.prog 66 (fun q : Wr => .agg (wcell q).toArray) (fun x y => decide (x = y)) := by
  refine ⟨fun x y w => ?_, GuardAt.agg _ (by kernel_rfl)⟩
  have u3 := Tryz.underlying3
  have a3 := Tryz.isAgg3
  have z3 := Tryz.sizeOf3
  have u9 := Tryz.underlying9
  have a9 := Tryz.isAgg9
  have z9 := Tryz.sizeOf9
  have hS : Tryz.prog.underlying 66 = some (.struct (Tryz.prog.fieldsOf 66)) := by kernel_rfl
  have hp : Tryz.prog.stoodInHeld 66 = false := by kernel_rfl
  simp only [wcell]
  rw [run_neq_struct, show (10000 : Nat) = 9999 + 1 from rfl, run_equalIn_agg w 9999 66 _ _ hS hp]
  simp only [Program.fieldsOf, Tryz.underlying66]
  by_cases h1 : x.nm = y.nm
  · rw [h1]
    by_cases h2 : x.xt = y.xt <;> by_cases h3 : x.fl = y.fl
    · have e : x = y := by cases x; cases y; simp_all
      subst e
      go_simp
    · have e : ¬ x = y := fun e => h3 (by rw [e])
      go_simp
    · have e : ¬ x = y := fun e => h2 (by rw [e])
      go_simp
    · have e : ¬ x = y := fun e => h2 (by rw [e])
      go_simp
  · have e : ¬ x = y := fun e => h1 (by rw [e])
    have hne := str_ne (a := strB x.nm) (b := strB y.nm) (fun e => h1 (strB_inj e))
    go_simp

theorem wcell_len (q : Wr) : (wcell q).length = 3 := rfl
theorem wds_elem (l : List Wr) (j : Nat) (hj : j < l.length) (i : Nat) (v : Value) (h : (wcell l[j]!)[i]? = some v) : (wds l)[j * 3 + i]? = some v := by
  rw [getElem!_pos l j hj] at h
  obtain ⟨h1, h2, h3⟩ := wds_at hj
  have e : j * 3 = 3 * j := by omega
  rw [e]
  match i, h with
  | 0, h => rw [Nat.add_zero, h1]; exact h
  | 1, h => rw [h2]; exact h
  | 2, h => rw [h3]; exact h
  | i + 3, h => simp [wcell] at h

theorem allEq_words (a b : List Wr) : Lib.allEq (fun x y : Wr => decide (x = y)) a b = decide (a = b) := by
  induction a generalizing b with
  | nil => cases b <;> simp [Lib.allEq]
  | cons x a ih =>
    cases b with
    | nil => simp [Lib.allEq]
    | cons y b => simp [Lib.allEq, ih]

theorem wequal_some (g o n c g' o' n' c' : Nat) (a b : List Wr) (w : World) (h : Wds w (.slice (some ⟨g, o, none⟩) n c) a) (h' : Wds w (.slice (some ⟨g', o', none⟩) n' c') b) (ha : n ≤ 1000000) (hb : n' ≤ 1000000) :
    Calls Tryz.prog 102 #[.slice (some ⟨g, o, none⟩) n c, .slice (some ⟨g', o', none⟩) n' c'] w fun e w' => e = .returned (.bool (decide (a = b))) ∧ Below w.heap.size w w' := by
  have ea := h.len
  have eb := h'.len
  subst ea eb
  have hcell : ∀ {g o : Nat} {l : List Wr} {c : Nat}, Wds w (.slice (some ⟨g, o, none⟩) l.length c) l → ∀ j, j < l.length → ∀ i v, (wcell l[j]!)[i]? = some v → w.cell? ⟨g, o + j * 3 + i, none⟩ = some v := by
    intro g o l c h j hj i v hv
    have hx := wds_elem l j hj i v hv
    rcases h.lies with hl | ⟨g2, o2, e, _, hc⟩
    · rw [hl] at hx; simp at hx
    · injection e with e
      injection e with e1 e2
      subst e1 e2
      have := hc _ _ hx
      rwa [← Nat.add_assoc] at this
  have hz := AnyQ.slices_Equal Tryz.weq_lays 3 Tryz.isAgg66 Tryz.sizeOf66 wcell wcell_len _ wneq g o a.length c g' o' b.length c' a b w (Nat.le_refl _) (Nat.le_refl _) (by omega) (by omega) (hcell h) (hcell h')
  refine Calls.mono hz ?_
  rintro e w1 ⟨he, q, hw⟩
  rw [List.take_length, List.take_length, allEq_words] at he
  exact ⟨he, by rw [hw]; exact drewN_belowW w q⟩

/-- A copy of a row: a row of its own. -/
theorem words_none {n c : Nat} {l : List Wr} {w : World} (h : Wds w (.slice none n c) l) : l = [] ∧ n = 0 := by
  have hl := h.len
  have h0 : l = [] := by
    rcases h.lies with h | ⟨_, _, h, _⟩
    · have := congrArg List.length h
      rw [wds_len] at this
      have h0 : l.length * 3 = 0 := this
      exact List.eq_nil_of_length_eq_zero (by omega)
    · cases h
  exact ⟨h0, by rw [← hl, h0]; rfl⟩
set_option maxRecDepth 100000 in
set_option maxHeartbeats 4000000 in
theorem wclone_any (A : Option Addr) (n c : Nat) (l : List Wr) (w : World) (h : Wds w (.slice A n c) l) (hn : n ≤ 100000) :
    Calls Tryz.prog 118 #[.slice A n c] w fun e w' => ∃ v, e = .returned v ∧ WOwns w' w.heap.size v n l ∧ Below w.heap.size w w' := by
  have q : ∀ w : World, _ := fun w => Lib.run_eql_slice_nil (P := Tryz.prog) w 30 66 A n c 0 0 Tryz.underlying30
  cases A with
  | none =>
    obtain ⟨rfl, rfl⟩ := words_none h
    clear h
    go_enter Tryz.func118, Tryz.ntmps118
    go_wp2_with fail
    go_ret
    exact ⟨_, rfl, wowns_none _ _, Below.refl _ _⟩
  | some p =>
    have HA := Lib.hid h
    clear h
    go_enter Tryz.func118, Tryz.ntmps118
    go_wp2_with (at_builtin; refine wpList_wapp rfl _ _ rfl w.heap.size (.slice (some ⟨w.heap.size, 0, none⟩) 0 0) 0 [] rfl (none_wowns w) (some p) n c l rfl (HA.out.keep (al_one _ _)) (by omega) (by simp) w (al_one _ _) (Nat.le_refl _) ?_; intro v2 w4 ho hb2 hgr; have O4 := Lib.hid ho; have B4 := Lib.hid hb2; clear ho hb2 hgr)
    go_ret
    exact ⟨v2, rfl, by simpa using O4.out, B4.out⟩
end Go.Proofs.YtbighilgkmfemaaGreatDoor
