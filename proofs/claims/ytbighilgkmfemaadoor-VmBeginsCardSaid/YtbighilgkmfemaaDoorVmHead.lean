/- The contract of the program's head: what stands ahead of Start. -/
import Derived.Test.YtbighilgkmfemaaDoorVmHeadM
import Derived.Test.YtbighilgkmfemaaDoorVmCodeB
import Derived.Test.YtbighilgkmfemaaDoorSetB
import Derived.Test.YtbighilgkmfemaaDoorSetC
import Derived.Deep.Cut
import Derived.Deep.DeepCutAuto
namespace Go.Proofs.YtbighilgkmfemaaDoor
open Go.RowKit
set_option linter.unusedVariables false
set_option linter.unusedSimpArgs false

set_option maxRecDepth 100000 in
set_option maxHeartbeats 4000000 in
theorem place_any (n : Nat) (hn : n ≤ 1000) (w : World) : Calls Tryd.prog 60 #[.int .i64 (n : Int)] w fun e w' => e = .returned (.int .i64 ((32 + 8 * n : Nat) : Int)) ∧ w = w' := by
  have hs : IntKind.i64.wrap (8 * (n : Int)) = 8 * (n : Int) := IntWalk.i64_in _ ⟨by omega, by omega⟩
  have hs2 : IntKind.i64.wrap (32 + 8 * (n : Int)) = 32 + 8 * (n : Int) := IntWalk.i64_in _ ⟨by omega, by omega⟩
  go_enter Tryd.func60, Tryd.ntmps60
  go_wp2
  go_ret
  exact ⟨by simp, rfl⟩
set_option maxRecDepth 100000 in
set_option maxHeartbeats 4000000 in
theorem field_any (n : Nat) (hn : n < 167) (w : World) : Calls Tryd.prog 82 #[.int .i64 (n : Int)] w fun e w' => e = .returned (.int .i64 ((numN n : Nat) : Int)) ∧ w = w' := by
  by_cases h : n < 130
  · have h' : (n : Int) < 130 := by omega
    rw [num_lo h]
    go_enter Tryd.func82, Tryd.ntmps82
    go_wp2
    go_ret
    exact ⟨rfl, rfl⟩
  · have h' : decide ((n : Int) < 130) = false := by simp; omega
    have hs : IntKind.i64.wrap (300 + (n : Int)) = 300 + (n : Int) := IntWalk.i64_in _ ⟨by omega, by omega⟩
    have hs2 : IntKind.i64.wrap (300 + (n : Int) - 130) = 300 + (n : Int) - 130 := IntWalk.i64_in _ ⟨by omega, by omega⟩
    have hm := num_hi h
    clear h
    go_enter Tryd.func82, Tryd.ntmps82
    go_wp2
    go_ret
    exact ⟨by rw [hm]; congr 2; simp; omega, rfl⟩
/-- A memory of 1368 bytes in a box, behind what w had. -/
def HdAt (w : World) (b : Nat) (r : List UInt8) (q : Nat) (w1 : World) : Prop := ∃ A P L c K d m, At b A P L c K d m w1 ∧ m.1 = r ∧ m.2.length ≤ q ∧ r.length = 1368 ∧ w.heap.size ≤ b ∧ Below w.heap.size w w1
theorem HdAt.keep {w W W' : World} {b q : Nat} {r : List UInt8} (h : HdAt w b r q W) (x : Below W.heap.size W W') : HdAt w b r q W' := by
  obtain ⟨A, P, L, c, K, d, m, h1, h2, h3, h4, h5, h6⟩ := h
  exact ⟨A, P, L, c, K, d, m, h1.keep x, h2, h3, h4, h5, below_then h6 x⟩
theorem drew_belw (w : World) : Below w.heap.size w w.drew := ⟨rfl, rfl, rfl, Nat.le_refl _, fun _ _ => rfl⟩
theorem hdat_put {w W w2 : World} {b q : Nat} {A P A' P' : Option Addr} {L c K d L' c' K' d' p : Nat} {m : PM} {r : List UInt8} (n : Int) (h : At b A P L c K d m W) (hr : m.1 = r) (hq : m.2.length ≤ q) (hl : r.length = 1368) (hbw : w.heap.size ≤ b) (hW : Below w.heap.size w W)
    (hb : Below W.heap.size W w2) (hm : IsMem w2 (.agg #[.slice A' L' c', .slice P' K' d']) (storeF m (p : Int) n)) (h8 : p % 8 = 0) (hp : p + 8 ≤ 1368) :
    HdAt w b (layF r (p : Int) (cellBytes n)) (q + 1) ((w2.setCell ⟨b, 0, none⟩ (.slice A' L' c')).setCell ⟨b, 1, none⟩ (.slice P' K' d')) := by
  subst hr
  obtain ⟨e1, e2⟩ := store_put (m := m) n hl h8 hp
  have ok : okB m.1.length (p : Int) ((cellBytes n).length : Nat) = true := by
    rw [hl, cellBytes_len]
    show okB 1368 (p : Int) 8 = true
    unfold okB
    rw [decide_eq_true_eq]
    omega
  refine ⟨A', P', L', c', K', d', _, ⟨(h.1.keep hb).put _ _, hm.row (h.1.keep hb) (row_put _ _ _ _)⟩, e1, by rw [e2]; omega, ?_, hbw, ?_⟩
  · rw [layF_len ok, hl]
  · exact ((below_then hW hb).setCell (p := ⟨b, 0, none⟩) hbw _).setCell (p := ⟨b, 1, none⟩) hbw _
theorem hd_call {w : World} {A P : Option Addr} {L c K d : Nat} {m : PM} {r : List UInt8} {q : Nat} (p n : Int) (HM : IsMem w (.agg #[.slice A L c, .slice P K d]) m) (hr : m.1 = r) (hl : r.length = 1368) (hq : m.2.length ≤ q) (h9 : q < 1000) :
    Calls Tryd.prog 81 #[.agg #[.slice A L c, .slice P K d], .int .i64 p, .int .i64 n] w fun e w' => ∃ A' L' c' P' K' d' C, e = .returned (.tuple #[.agg #[.slice A' L' c', .slice P' K' d'], .int .i64 C]) ∧ IsMem w' (.agg #[.slice A' L' c', .slice P' K' d']) (storeF m p n) ∧ Below w.heap.size w w' := by
  subst hr
  have e1 := HM.len1
  have e2 := HM.len2
  refine (store_at A P L c K d m p n w (Lib.hid HM) (by omega) (by omega)).mono ?_
  rintro e w1 ⟨A', L', c', P', K', d', he, hm, b⟩
  exact ⟨A', L', c', P', K', d', _, he, hm, b⟩
set_option maxRecDepth 100000 in
set_option maxHeartbeats 4000000 in
theorem head_any (w : World) : Calls Tryd.prog 54 #[] w fun e w' => ∃ A L c, e = .returned (.agg #[.slice A L c, .slice none 0 0]) ∧ IsMem w' (.agg #[.slice A L c, .slice none 0 0]) (rowN 1368 167, []) ∧ Below w.heap.size w w' := by
  go_enter Tryd.func54, Tryd.ntmps54
  go_wp2_with fail
  refine (new_any 1368 _).mono ?_
  rintro e w1 ⟨A, L, c, P, K, d, rfl, hm, bb⟩
  have B1 := Lib.hid bb
  have M1 := Lib.hid hm
  clear hm bb
  go_upto_region 2 with fail
  obtain ⟨w0, hw0⟩ : ∃ w0, w.alloc (.cells #[.slice none 0 0, .slice none 0 0] 28) = w0 := ⟨_, rfl⟩
  have hz : Box w0 w.heap.size (.slice none 0 0) (.slice none 0 0) 28 := by rw [← hw0]; exact box_new _ _ _ _
  have hB0 : Below w.heap.size w w0 := by rw [← hw0]; exact al_one _ _
  have HZ := Lib.hid hz
  have HB0 := Lib.hid hB0
  rw [hw0] at B1
  have X0 : HdAt w0 w1.heap.size (List.replicate 1368 0) 0 (w1.alloc (.cells #[.slice A L c, .slice P K d] 28)) :=
    ⟨A, P, L, c, K, d, newF 1368, ⟨box_new _ _ _ _, M1.out.keep (al_one _ _)⟩, by decide +kernel, by decide +kernel, by simp, B1.out.size, B1.out.alloc B1.out.size _⟩
  have HX := Lib.hid X0
  clear hw0 hz hB0
  obtain ⟨b, hb⟩ : ∃ b, w1.heap.size = b := ⟨_, rfl⟩
  obtain ⟨W, hW⟩ : ∃ W, w1.alloc (.cells #[.slice A L c, .slice P K d] 28) = W := ⟨_, rfl⟩
  rw [hb, hW] at HX
  rw [hb, hW]
  clear X0 hb hW B1 M1
  obtain ⟨A, P, L, c, K, d, m, hAt, hr, hq, hl, hbw, hBW⟩ := HX.out
  obtain ⟨p0, p1⟩ := hAt.use
  have HA := Lib.hid hAt
  have HR := Lib.hid hr
  have HQ := Lib.hid hq
  have HL := Lib.hid hl
  have HBW := Lib.hid hbw
  have HW := Lib.hid hBW
  clear hAt hr hq hl hbw hBW
  have HC := Lib.hid (hd_call 0 10 HA.out.2 HR.out HL.out HQ.out (by decide))
  go_wp2_with fail
  refine HC.out.mono ?_
  rintro e w2 ⟨A', L', c', P', K', d', C, rfl, hm, bb⟩
  have X1 := Lib.hid (hdat_put (p := 0) 10 HA.out HR.out HQ.out HL.out HBW.out HW.out bb hm (by decide) (by decide))
  have hu := (HA.out.1.keep bb).use
  obtain ⟨u0, u1, u2, u3⟩ := hu
  clear p0 p1 HC hm bb HX
  obtain ⟨V, hV⟩ : ∃ V, (w2.setCell ⟨b, 0, none⟩ (.slice A' L' c')).setCell ⟨b, 1, none⟩ (.slice P' K' d') = V := ⟨_, rfl⟩
  rw [hV] at X1
  go_upto_region 3 with fail
  clear u0 u1 u2 u3 hV HA HR HQ HL HBW HW
  go_cut [13] (fun s13 wx => HdAt w0 b (layF (layF (List.replicate 1368 0) ((0 : Nat) : Int) (cellBytes ((10 : Nat) : Int))) ((16 : Nat) : Int) (cellBytes ((96 : Nat) : Int))) 2 wx)
  case first =>
    refine wp_region_noPanic ?_
    refine wp_region_held_drew (S := fun _ => True) (by kernel_rfl) trivial (fun _ => ?_)
    have XD := Lib.hid (X1.out.keep (drew_belw _))
    generalize World.drew _ = U at XD ⊢
    obtain ⟨A, P, L, c, K, d, m, hAt, hr, hq, hl, hbw, hBW⟩ := XD.out
    obtain ⟨p0, p1⟩ := hAt.use
    have HA := Lib.hid hAt
    have HR := Lib.hid hr
    have HQ := Lib.hid hq
    have HL := Lib.hid hl
    have HBW := Lib.hid hbw
    have HW := Lib.hid hBW
    clear hAt hr hq hl hbw hBW
    have HC := Lib.hid (hd_call 16 96 HA.out.2 HR.out HL.out HQ.out (by decide))
    have HP : Hid (∀ w, Calls Tryd.prog 60 #[.int .i64 8] w fun e w' => e = .returned (.int .i64 96) ∧ w = w') := fun w => place_any 8 (by decide) w
    refine wpAnyH_ready (rs := [0, 1]) (by kernel_rfl) (by simp) ?_
    refine AllReadyH.cons (o := _) rfl (fun K hK => ?_) (AllReadyH.cons (o := _) rfl (fun K hK => ?_) (AllReadyH.nil))
    · go_simp
      refine hK.out _ _ trivial (fun _ => ?_)
      clear hK K
      try try simp only [List.getElem_toArray, List.getElem_cons_succ, List.getElem_cons_zero, Act.put, List.setIfInBounds_toArray, List.set_cons_zero, List.set_cons_succ]
      refine wpAnyH_ready (rs := [1]) (by kernel_rfl) (by simp) ?_
      refine AllReadyH.cons (o := _) rfl (fun K hK => ?_) (AllReadyH.nil)
      · go_simp
        refine (HP.out _).mono ?_
        rintro e w9 ⟨rfl, rfl⟩
        go_wp2_with fail
        refine hK.out _ _ trivial (fun _ => ?_)
        clear hK K
        try try simp only [List.getElem_toArray, List.getElem_cons_succ, List.getElem_cons_zero, Act.put, List.setIfInBounds_toArray, List.set_cons_zero, List.set_cons_succ]
        refine wpAnyH_ready (rs := [2]) (by kernel_rfl) (by simp) ?_
        refine AllReadyH.cons (o := _) rfl (fun K hK => ?_) AllReadyH.nil
        go_simp
        refine HC.out.mono ?_
        rintro e w2 ⟨A', L', c', P', K', d', C, rfl, hm, bb⟩
        go_wp2_with fail
        refine hK.out _ _ trivial (fun _ => ?_)
        clear hK K
        try try simp only [List.getElem_toArray, List.getElem_cons_succ, List.getElem_cons_zero, Act.put, List.setIfInBounds_toArray, List.set_cons_zero, List.set_cons_succ]
        have X2 := Lib.hid (hdat_put (p := 16) 96 HA.out HR.out HQ.out HL.out HBW.out HW.out bb hm (by omega) (by omega))
        obtain ⟨u0, u1, u2, u3⟩ := (HA.out.1.keep bb).use
        clear hm bb
        (refine wpAnyH_take (i := 3) (oi := _) (v := ?v3z1) rfl (by kernel_rfl) (by kernel_rfl) (by kernel_rfl) (fun _ _ _ h => h) (Or.inl ⟨by kernel_rfl, ?y3z1⟩) (by assumption) ?r3z1; case y3z1 => (intro w hSw; (try dsimp only at hSw); go_simp; (try with_reducible rfl))); (try simp only [List.getElem_toArray, List.getElem_cons_succ, List.getElem_cons_zero, Act.put, List.setIfInBounds_toArray, List.set_cons_zero, List.set_cons_succ])
        (refine wpAnyH_take (i := 4) (oi := _) (v := ?v4z2) rfl (by kernel_rfl) (by kernel_rfl) (by kernel_rfl) (fun _ _ _ h => h) (Or.inl ⟨by kernel_rfl, ?y4z2⟩) (by assumption) ?r4z2; case y4z2 => (intro w hSw; (try dsimp only at hSw); go_simp; (try with_reducible rfl))); (try simp only [List.getElem_toArray, List.getElem_cons_succ, List.getElem_cons_zero, Act.put, List.setIfInBounds_toArray, List.set_cons_zero, List.set_cons_succ])
        (refine wpAnyH_take (i := 5) (oi := _) (v := ?v5z3) rfl (by kernel_rfl) (by kernel_rfl) (by kernel_rfl) (fun _ _ _ h => h) (Or.inl ⟨by kernel_rfl, ?y5z3⟩) (by assumption) ?r5z3; case y5z3 => (intro w hSw; (try dsimp only at hSw); go_simp; (try with_reducible rfl))); (try simp only [List.getElem_toArray, List.getElem_cons_succ, List.getElem_cons_zero, Act.put, List.setIfInBounds_toArray, List.set_cons_zero, List.set_cons_succ])
        refine wpAnyH_ready (rs := [6]) (by kernel_rfl) (by simp) ?_
        refine AllReadyH.cons (o := _) rfl (fun K hK => ?_) AllReadyH.nil
        go_simp
        refine hK.out _ _ trivial (fun _ => ?_)
        clear hK K
        try try simp only [List.getElem_toArray, List.getElem_cons_succ, List.getElem_cons_zero, Act.put, List.setIfInBounds_toArray, List.set_cons_zero, List.set_cons_succ]
        refine wpAnyH_done (by kernel_rfl) ?_ _
        refine NoPanic.normal ?_
        clear u0 u1 u2 u3
        go_wp2_with fail
        go_meet
        exact X2.out
    · go_simp
      refine (HP.out _).mono ?_
      rintro e w9 ⟨rfl, rfl⟩
      go_wp2_with fail
      refine hK.out _ _ trivial (fun _ => ?_)
      clear hK K
      try try simp only [List.getElem_toArray, List.getElem_cons_succ, List.getElem_cons_zero, Act.put, List.setIfInBounds_toArray, List.set_cons_zero, List.set_cons_succ]
      refine wpAnyH_ready (rs := [0]) (by kernel_rfl) (by simp) ?_
      refine AllReadyH.cons (o := _) rfl (fun K hK => ?_) (AllReadyH.nil)
      · go_simp
        refine hK.out _ _ trivial (fun _ => ?_)
        clear hK K
        try try simp only [List.getElem_toArray, List.getElem_cons_succ, List.getElem_cons_zero, Act.put, List.setIfInBounds_toArray, List.set_cons_zero, List.set_cons_succ]
        refine wpAnyH_ready (rs := [2]) (by kernel_rfl) (by simp) ?_
        refine AllReadyH.cons (o := _) rfl (fun K hK => ?_) AllReadyH.nil
        go_simp
        refine HC.out.mono ?_
        rintro e w2 ⟨A', L', c', P', K', d', C, rfl, hm, bb⟩
        go_wp2_with fail
        refine hK.out _ _ trivial (fun _ => ?_)
        clear hK K
        try try simp only [List.getElem_toArray, List.getElem_cons_succ, List.getElem_cons_zero, Act.put, List.setIfInBounds_toArray, List.set_cons_zero, List.set_cons_succ]
        have X2 := Lib.hid (hdat_put (p := 16) 96 HA.out HR.out HQ.out HL.out HBW.out HW.out bb hm (by omega) (by omega))
        obtain ⟨u0, u1, u2, u3⟩ := (HA.out.1.keep bb).use
        clear hm bb
        (refine wpAnyH_take (i := 3) (oi := _) (v := ?v3z4) rfl (by kernel_rfl) (by kernel_rfl) (by kernel_rfl) (fun _ _ _ h => h) (Or.inl ⟨by kernel_rfl, ?y3z4⟩) (by assumption) ?r3z4; case y3z4 => (intro w hSw; (try dsimp only at hSw); go_simp; (try with_reducible rfl))); (try simp only [List.getElem_toArray, List.getElem_cons_succ, List.getElem_cons_zero, Act.put, List.setIfInBounds_toArray, List.set_cons_zero, List.set_cons_succ])
        (refine wpAnyH_take (i := 4) (oi := _) (v := ?v4z5) rfl (by kernel_rfl) (by kernel_rfl) (by kernel_rfl) (fun _ _ _ h => h) (Or.inl ⟨by kernel_rfl, ?y4z5⟩) (by assumption) ?r4z5; case y4z5 => (intro w hSw; (try dsimp only at hSw); go_simp; (try with_reducible rfl))); (try simp only [List.getElem_toArray, List.getElem_cons_succ, List.getElem_cons_zero, Act.put, List.setIfInBounds_toArray, List.set_cons_zero, List.set_cons_succ])
        (refine wpAnyH_take (i := 5) (oi := _) (v := ?v5z6) rfl (by kernel_rfl) (by kernel_rfl) (by kernel_rfl) (fun _ _ _ h => h) (Or.inl ⟨by kernel_rfl, ?y5z6⟩) (by assumption) ?r5z6; case y5z6 => (intro w hSw; (try dsimp only at hSw); go_simp; (try with_reducible rfl))); (try simp only [List.getElem_toArray, List.getElem_cons_succ, List.getElem_cons_zero, Act.put, List.setIfInBounds_toArray, List.set_cons_zero, List.set_cons_succ])
        refine wpAnyH_ready (rs := [6]) (by kernel_rfl) (by simp) ?_
        refine AllReadyH.cons (o := _) rfl (fun K hK => ?_) AllReadyH.nil
        go_simp
        refine hK.out _ _ trivial (fun _ => ?_)
        clear hK K
        try try simp only [List.getElem_toArray, List.getElem_cons_succ, List.getElem_cons_zero, Act.put, List.setIfInBounds_toArray, List.set_cons_zero, List.set_cons_succ]
        refine wpAnyH_done (by kernel_rfl) ?_ _
        refine NoPanic.normal ?_
        clear u0 u1 u2 u3
        go_wp2_with fail
        go_meet
        exact X2.out
  case rest =>
  have X2 := Lib.hid hcut
  clear hcut X1
  go_upto_region 4 with fail
  go_cut [19] (fun s19 wx => HdAt w0 b (layF (layF (layF (List.replicate 1368 0) ((0 : Nat) : Int) (cellBytes ((10 : Nat) : Int))) ((16 : Nat) : Int) (cellBytes ((96 : Nat) : Int))) ((24 : Nat) : Int) (cellBytes ((104 : Nat) : Int))) 3 wx)
  case first =>
    refine wp_region_noPanic ?_
    refine wp_region_held_drew (S := fun _ => True) (by kernel_rfl) trivial (fun _ => ?_)
    have XD := Lib.hid (X2.out.keep (drew_belw _))
    generalize World.drew _ = U at XD ⊢
    obtain ⟨A, P, L, c, K, d, m, hAt, hr, hq, hl, hbw, hBW⟩ := XD.out
    obtain ⟨p0, p1⟩ := hAt.use
    have HA := Lib.hid hAt
    have HR := Lib.hid hr
    have HQ := Lib.hid hq
    have HL := Lib.hid hl
    have HBW := Lib.hid hbw
    have HW := Lib.hid hBW
    clear hAt hr hq hl hbw hBW
    have HC := Lib.hid (hd_call 24 104 HA.out.2 HR.out HL.out HQ.out (by decide))
    have HP : Hid (∀ w, Calls Tryd.prog 60 #[.int .i64 9] w fun e w' => e = .returned (.int .i64 104) ∧ w = w') := fun w => place_any 9 (by decide) w
    refine wpAnyH_ready (rs := [0, 1]) (by kernel_rfl) (by simp) ?_
    refine AllReadyH.cons (o := _) rfl (fun K hK => ?_) (AllReadyH.cons (o := _) rfl (fun K hK => ?_) (AllReadyH.nil))
    · go_simp
      refine hK.out _ _ trivial (fun _ => ?_)
      clear hK K
      try try simp only [List.getElem_toArray, List.getElem_cons_succ, List.getElem_cons_zero, Act.put, List.setIfInBounds_toArray, List.set_cons_zero, List.set_cons_succ]
      refine wpAnyH_ready (rs := [1]) (by kernel_rfl) (by simp) ?_
      refine AllReadyH.cons (o := _) rfl (fun K hK => ?_) (AllReadyH.nil)
      · go_simp
        refine (HP.out _).mono ?_
        rintro e w9 ⟨rfl, rfl⟩
        go_wp2_with fail
        refine hK.out _ _ trivial (fun _ => ?_)
        clear hK K
        try try simp only [List.getElem_toArray, List.getElem_cons_succ, List.getElem_cons_zero, Act.put, List.setIfInBounds_toArray, List.set_cons_zero, List.set_cons_succ]
        refine wpAnyH_ready (rs := [2]) (by kernel_rfl) (by simp) ?_
        refine AllReadyH.cons (o := _) rfl (fun K hK => ?_) AllReadyH.nil
        go_simp
        refine HC.out.mono ?_
        rintro e w2 ⟨A', L', c', P', K', d', C, rfl, hm, bb⟩
        go_wp2_with fail
        refine hK.out _ _ trivial (fun _ => ?_)
        clear hK K
        try try simp only [List.getElem_toArray, List.getElem_cons_succ, List.getElem_cons_zero, Act.put, List.setIfInBounds_toArray, List.set_cons_zero, List.set_cons_succ]
        have X2 := Lib.hid (hdat_put (p := 24) 104 HA.out HR.out HQ.out HL.out HBW.out HW.out bb hm (by omega) (by omega))
        obtain ⟨u0, u1, u2, u3⟩ := (HA.out.1.keep bb).use
        clear hm bb
        (refine wpAnyH_take (i := 3) (oi := _) (v := ?v3z7) rfl (by kernel_rfl) (by kernel_rfl) (by kernel_rfl) (fun _ _ _ h => h) (Or.inl ⟨by kernel_rfl, ?y3z7⟩) (by assumption) ?r3z7; case y3z7 => (intro w hSw; (try dsimp only at hSw); go_simp; (try with_reducible rfl))); (try simp only [List.getElem_toArray, List.getElem_cons_succ, List.getElem_cons_zero, Act.put, List.setIfInBounds_toArray, List.set_cons_zero, List.set_cons_succ])
        (refine wpAnyH_take (i := 4) (oi := _) (v := ?v4z8) rfl (by kernel_rfl) (by kernel_rfl) (by kernel_rfl) (fun _ _ _ h => h) (Or.inl ⟨by kernel_rfl, ?y4z8⟩) (by assumption) ?r4z8; case y4z8 => (intro w hSw; (try dsimp only at hSw); go_simp; (try with_reducible rfl))); (try simp only [List.getElem_toArray, List.getElem_cons_succ, List.getElem_cons_zero, Act.put, List.setIfInBounds_toArray, List.set_cons_zero, List.set_cons_succ])
        (refine wpAnyH_take (i := 5) (oi := _) (v := ?v5z9) rfl (by kernel_rfl) (by kernel_rfl) (by kernel_rfl) (fun _ _ _ h => h) (Or.inl ⟨by kernel_rfl, ?y5z9⟩) (by assumption) ?r5z9; case y5z9 => (intro w hSw; (try dsimp only at hSw); go_simp; (try with_reducible rfl))); (try simp only [List.getElem_toArray, List.getElem_cons_succ, List.getElem_cons_zero, Act.put, List.setIfInBounds_toArray, List.set_cons_zero, List.set_cons_succ])
        refine wpAnyH_ready (rs := [6]) (by kernel_rfl) (by simp) ?_
        refine AllReadyH.cons (o := _) rfl (fun K hK => ?_) AllReadyH.nil
        go_simp
        refine hK.out _ _ trivial (fun _ => ?_)
        clear hK K
        try try simp only [List.getElem_toArray, List.getElem_cons_succ, List.getElem_cons_zero, Act.put, List.setIfInBounds_toArray, List.set_cons_zero, List.set_cons_succ]
        refine wpAnyH_done (by kernel_rfl) ?_ _
        refine NoPanic.normal ?_
        clear u0 u1 u2 u3
        go_wp2_with fail
        go_meet
        exact X2.out
    · go_simp
      refine (HP.out _).mono ?_
      rintro e w9 ⟨rfl, rfl⟩
      go_wp2_with fail
      refine hK.out _ _ trivial (fun _ => ?_)
      clear hK K
      try try simp only [List.getElem_toArray, List.getElem_cons_succ, List.getElem_cons_zero, Act.put, List.setIfInBounds_toArray, List.set_cons_zero, List.set_cons_succ]
      refine wpAnyH_ready (rs := [0]) (by kernel_rfl) (by simp) ?_
      refine AllReadyH.cons (o := _) rfl (fun K hK => ?_) (AllReadyH.nil)
      · go_simp
        refine hK.out _ _ trivial (fun _ => ?_)
        clear hK K
        try try simp only [List.getElem_toArray, List.getElem_cons_succ, List.getElem_cons_zero, Act.put, List.setIfInBounds_toArray, List.set_cons_zero, List.set_cons_succ]
        refine wpAnyH_ready (rs := [2]) (by kernel_rfl) (by simp) ?_
        refine AllReadyH.cons (o := _) rfl (fun K hK => ?_) AllReadyH.nil
        go_simp
        refine HC.out.mono ?_
        rintro e w2 ⟨A', L', c', P', K', d', C, rfl, hm, bb⟩
        go_wp2_with fail
        refine hK.out _ _ trivial (fun _ => ?_)
        clear hK K
        try try simp only [List.getElem_toArray, List.getElem_cons_succ, List.getElem_cons_zero, Act.put, List.setIfInBounds_toArray, List.set_cons_zero, List.set_cons_succ]
        have X2 := Lib.hid (hdat_put (p := 24) 104 HA.out HR.out HQ.out HL.out HBW.out HW.out bb hm (by omega) (by omega))
        obtain ⟨u0, u1, u2, u3⟩ := (HA.out.1.keep bb).use
        clear hm bb
        (refine wpAnyH_take (i := 3) (oi := _) (v := ?v3z10) rfl (by kernel_rfl) (by kernel_rfl) (by kernel_rfl) (fun _ _ _ h => h) (Or.inl ⟨by kernel_rfl, ?y3z10⟩) (by assumption) ?r3z10; case y3z10 => (intro w hSw; (try dsimp only at hSw); go_simp; (try with_reducible rfl))); (try simp only [List.getElem_toArray, List.getElem_cons_succ, List.getElem_cons_zero, Act.put, List.setIfInBounds_toArray, List.set_cons_zero, List.set_cons_succ])
        (refine wpAnyH_take (i := 4) (oi := _) (v := ?v4z11) rfl (by kernel_rfl) (by kernel_rfl) (by kernel_rfl) (fun _ _ _ h => h) (Or.inl ⟨by kernel_rfl, ?y4z11⟩) (by assumption) ?r4z11; case y4z11 => (intro w hSw; (try dsimp only at hSw); go_simp; (try with_reducible rfl))); (try simp only [List.getElem_toArray, List.getElem_cons_succ, List.getElem_cons_zero, Act.put, List.setIfInBounds_toArray, List.set_cons_zero, List.set_cons_succ])
        (refine wpAnyH_take (i := 5) (oi := _) (v := ?v5z12) rfl (by kernel_rfl) (by kernel_rfl) (by kernel_rfl) (fun _ _ _ h => h) (Or.inl ⟨by kernel_rfl, ?y5z12⟩) (by assumption) ?r5z12; case y5z12 => (intro w hSw; (try dsimp only at hSw); go_simp; (try with_reducible rfl))); (try simp only [List.getElem_toArray, List.getElem_cons_succ, List.getElem_cons_zero, Act.put, List.setIfInBounds_toArray, List.set_cons_zero, List.set_cons_succ])
        refine wpAnyH_ready (rs := [6]) (by kernel_rfl) (by simp) ?_
        refine AllReadyH.cons (o := _) rfl (fun K hK => ?_) AllReadyH.nil
        go_simp
        refine hK.out _ _ trivial (fun _ => ?_)
        clear hK K
        try try simp only [List.getElem_toArray, List.getElem_cons_succ, List.getElem_cons_zero, Act.put, List.setIfInBounds_toArray, List.set_cons_zero, List.set_cons_succ]
        refine wpAnyH_done (by kernel_rfl) ?_ _
        refine NoPanic.normal ?_
        clear u0 u1 u2 u3
        go_wp2_with fail
        go_meet
        exact X2.out
  case rest =>
  have X3 := Lib.hid hcut
  clear hcut X2
  rw [head_zero 1368 (by decide)] at X3
  go_wp2_with fail
  go_loopw [25] (fun s25 wx => ∃ i : Nat, s25 = .int .i64 (i : Int) ∧ i ≤ 167 ∧ Hid (HdAt w0 b (rowH 1368 i) (3 + i) wx)) (fun s25 _ => 167 - (intOf s25).toNat)
  case atStart => exact ⟨0, rfl, Nat.zero_le _, X3⟩
  case round =>
  obtain ⟨i, rfl, hi, HX⟩ := hrel
  by_cases hi7 : i < 167
  · have hi7' : (i : Int) < 167 := by omega
    go_upto_region 8 with fail
    refine wp_region_noPanic ?_
    refine wp_region_held_drew (S := fun _ => True) (by kernel_rfl) trivial (fun _ => ?_)
    have XD := Lib.hid (HX.out.keep (drew_belw _))
    generalize World.drew _ = U at XD ⊢
    obtain ⟨A, P, L, c, K, d, m, hAt, hr, hq, hl, hbw, hBW⟩ := XD.out
    obtain ⟨p0, p1⟩ := hAt.use
    have HA := Lib.hid hAt
    have HR := Lib.hid hr
    have HQ := Lib.hid hq
    have HL := Lib.hid hl
    have HBW := Lib.hid hbw
    have HW := Lib.hid hBW
    clear hAt hr hq hl hbw hBW
    have HC := Lib.hid (hd_call ((32 + 8 * i : Nat) : Int) ((numN i : Nat) : Int) HA.out.2 HR.out HL.out HQ.out (by omega))
    have HP : Hid (∀ w, Calls Tryd.prog 60 #[.int .i64 (i : Int)] w fun e w' => e = .returned (.int .i64 ((32 + 8 * i : Nat) : Int)) ∧ w = w') := fun w => place_any i (by omega) w
    have HFL : Hid (∀ w, Calls Tryd.prog 82 #[.int .i64 (i : Int)] w fun e w' => e = .returned (.int .i64 ((numN i : Nat) : Int)) ∧ w = w') := fun w => field_any i hi7 w
    obtain ⟨QP, hQP⟩ : ∃ q, ((32 + 8 * i : Nat) : Int) = q := ⟨_, rfl⟩
    obtain ⟨QF, hQF⟩ : ∃ q, ((numN i : Nat) : Int) = q := ⟨_, rfl⟩
    rw [hQP, hQF] at HC
    rw [hQP] at HP
    rw [hQF] at HFL
    have HQP := Lib.hid hQP
    have HQF := Lib.hid hQF
    clear hQP hQF
    (refine wpAnyH_take (i := 1) (oi := _) (v := ?v1z13) rfl (by kernel_rfl) (by kernel_rfl) (by kernel_rfl) (fun _ _ _ h => h) (Or.inl ⟨by kernel_rfl, ?y1z13⟩) (by assumption) ?r1z13; case y1z13 => (intro w hSw; (try dsimp only at hSw); go_simp; (try with_reducible rfl))); (try simp only [List.getElem_toArray, List.getElem_cons_succ, List.getElem_cons_zero, Act.put, List.setIfInBounds_toArray, List.set_cons_zero, List.set_cons_succ])
    (refine wpAnyH_take (i := 3) (oi := _) (v := ?v3z14) rfl (by kernel_rfl) (by kernel_rfl) (by kernel_rfl) (fun _ _ _ h => h) (Or.inl ⟨by kernel_rfl, ?y3z14⟩) (by assumption) ?r3z14; case y3z14 => (intro w hSw; (try dsimp only at hSw); go_simp; (try with_reducible rfl))); (try simp only [List.getElem_toArray, List.getElem_cons_succ, List.getElem_cons_zero, Act.put, List.setIfInBounds_toArray, List.set_cons_zero, List.set_cons_succ])
    refine wpAnyH_ready (rs := [0, 2]) (by kernel_rfl) (by simp) ?_
    refine AllReadyH.cons (o := _) rfl (fun K hK => ?_) (AllReadyH.cons (o := _) rfl (fun K hK => ?_) (AllReadyH.nil))
    · go_simp
      refine hK.out _ _ trivial (fun _ => ?_)
      clear hK K
      try try simp only [List.getElem_toArray, List.getElem_cons_succ, List.getElem_cons_zero, Act.put, List.setIfInBounds_toArray, List.set_cons_zero, List.set_cons_succ]
      refine wpAnyH_ready (rs := [2]) (by kernel_rfl) (by simp) ?_
      refine AllReadyH.cons (o := _) rfl (fun K hK => ?_) (AllReadyH.nil)
      · go_simp
        refine (HP.out _).mono ?_
        rintro e w9 ⟨rfl, rfl⟩
        go_wp2_with fail
        refine hK.out _ _ trivial (fun _ => ?_)
        clear hK K
        try try simp only [List.getElem_toArray, List.getElem_cons_succ, List.getElem_cons_zero, Act.put, List.setIfInBounds_toArray, List.set_cons_zero, List.set_cons_succ]
        refine wpAnyH_ready (rs := [4]) (by kernel_rfl) (by simp) ?_
        refine AllReadyH.cons (o := _) rfl (fun K hK => ?_) (AllReadyH.nil)
        · go_simp
          refine (HFL.out _).mono ?_
          rintro e w9 ⟨rfl, rfl⟩
          go_wp2_with fail
          refine hK.out _ _ trivial (fun _ => ?_)
          clear hK K
          try try simp only [List.getElem_toArray, List.getElem_cons_succ, List.getElem_cons_zero, Act.put, List.setIfInBounds_toArray, List.set_cons_zero, List.set_cons_succ]
          refine wpAnyH_ready (rs := [5]) (by kernel_rfl) (by simp) ?_
          refine AllReadyH.cons (o := _) rfl (fun K hK => ?_) AllReadyH.nil
          go_simp
          refine HC.out.mono ?_
          rintro e w2 ⟨A', L', c', P', K', d', C, rfl, hm, bb⟩
          go_wp2_with fail
          refine hK.out _ _ trivial (fun _ => ?_)
          clear hK K
          try try simp only [List.getElem_toArray, List.getElem_cons_succ, List.getElem_cons_zero, Act.put, List.setIfInBounds_toArray, List.set_cons_zero, List.set_cons_succ]
          have X2 := Lib.hid (hdat_put (p := 32 + 8 * i) ((numN i : Nat) : Int) HA.out HR.out HQ.out HL.out HBW.out HW.out bb (by rw [← HQP.out, ← HQF.out] at hm; exact hm) (by omega) (by omega))
          obtain ⟨u0, u1, u2, u3⟩ := (HA.out.1.keep bb).use
          clear hm bb
          (refine wpAnyH_take (i := 6) (oi := _) (v := ?v6z15) rfl (by kernel_rfl) (by kernel_rfl) (by kernel_rfl) (fun _ _ _ h => h) (Or.inl ⟨by kernel_rfl, ?y6z15⟩) (by assumption) ?r6z15; case y6z15 => (intro w hSw; (try dsimp only at hSw); go_simp; (try with_reducible rfl))); (try simp only [List.getElem_toArray, List.getElem_cons_succ, List.getElem_cons_zero, Act.put, List.setIfInBounds_toArray, List.set_cons_zero, List.set_cons_succ])
          (refine wpAnyH_take (i := 7) (oi := _) (v := ?v7z16) rfl (by kernel_rfl) (by kernel_rfl) (by kernel_rfl) (fun _ _ _ h => h) (Or.inl ⟨by kernel_rfl, ?y7z16⟩) (by assumption) ?r7z16; case y7z16 => (intro w hSw; (try dsimp only at hSw); go_simp; (try with_reducible rfl))); (try simp only [List.getElem_toArray, List.getElem_cons_succ, List.getElem_cons_zero, Act.put, List.setIfInBounds_toArray, List.set_cons_zero, List.set_cons_succ])
          (refine wpAnyH_take (i := 8) (oi := _) (v := ?v8z17) rfl (by kernel_rfl) (by kernel_rfl) (by kernel_rfl) (fun _ _ _ h => h) (Or.inl ⟨by kernel_rfl, ?y8z17⟩) (by assumption) ?r8z17; case y8z17 => (intro w hSw; (try dsimp only at hSw); go_simp; (try with_reducible rfl))); (try simp only [List.getElem_toArray, List.getElem_cons_succ, List.getElem_cons_zero, Act.put, List.setIfInBounds_toArray, List.set_cons_zero, List.set_cons_succ])
          refine wpAnyH_ready (rs := [9]) (by kernel_rfl) (by simp) ?_
          refine AllReadyH.cons (o := _) rfl (fun K hK => ?_) AllReadyH.nil
          go_simp
          refine hK.out _ _ trivial (fun _ => ?_)
          clear hK K
          try try simp only [List.getElem_toArray, List.getElem_cons_succ, List.getElem_cons_zero, Act.put, List.setIfInBounds_toArray, List.set_cons_zero, List.set_cons_succ]
          refine wpAnyH_done (by kernel_rfl) ?_ _
          refine NoPanic.normal ?_
          clear u0 u1 u2 u3
          have X3 := X2.out
          rw [head_step hi7 (by decide)] at X3
          have X4 := Lib.hid X3
          clear X3 X2
          go_wp2_with fail
          go_roundw
          case rel => exact ⟨i + 1, by simp, by omega, X4⟩
          case measure => simp [intOf]; omega
    · go_simp
      refine (HP.out _).mono ?_
      rintro e w9 ⟨rfl, rfl⟩
      go_wp2_with fail
      refine hK.out _ _ trivial (fun _ => ?_)
      clear hK K
      try try simp only [List.getElem_toArray, List.getElem_cons_succ, List.getElem_cons_zero, Act.put, List.setIfInBounds_toArray, List.set_cons_zero, List.set_cons_succ]
      refine wpAnyH_ready (rs := [0, 4]) (by kernel_rfl) (by simp) ?_
      refine AllReadyH.cons (o := _) rfl (fun K hK => ?_) (AllReadyH.cons (o := _) rfl (fun K hK => ?_) (AllReadyH.nil))
      · go_simp
        refine hK.out _ _ trivial (fun _ => ?_)
        clear hK K
        try try simp only [List.getElem_toArray, List.getElem_cons_succ, List.getElem_cons_zero, Act.put, List.setIfInBounds_toArray, List.set_cons_zero, List.set_cons_succ]
        refine wpAnyH_ready (rs := [4]) (by kernel_rfl) (by simp) ?_
        refine AllReadyH.cons (o := _) rfl (fun K hK => ?_) (AllReadyH.nil)
        · go_simp
          refine (HFL.out _).mono ?_
          rintro e w9 ⟨rfl, rfl⟩
          go_wp2_with fail
          refine hK.out _ _ trivial (fun _ => ?_)
          clear hK K
          try try simp only [List.getElem_toArray, List.getElem_cons_succ, List.getElem_cons_zero, Act.put, List.setIfInBounds_toArray, List.set_cons_zero, List.set_cons_succ]
          refine wpAnyH_ready (rs := [5]) (by kernel_rfl) (by simp) ?_
          refine AllReadyH.cons (o := _) rfl (fun K hK => ?_) AllReadyH.nil
          go_simp
          refine HC.out.mono ?_
          rintro e w2 ⟨A', L', c', P', K', d', C, rfl, hm, bb⟩
          go_wp2_with fail
          refine hK.out _ _ trivial (fun _ => ?_)
          clear hK K
          try try simp only [List.getElem_toArray, List.getElem_cons_succ, List.getElem_cons_zero, Act.put, List.setIfInBounds_toArray, List.set_cons_zero, List.set_cons_succ]
          have X2 := Lib.hid (hdat_put (p := 32 + 8 * i) ((numN i : Nat) : Int) HA.out HR.out HQ.out HL.out HBW.out HW.out bb (by rw [← HQP.out, ← HQF.out] at hm; exact hm) (by omega) (by omega))
          obtain ⟨u0, u1, u2, u3⟩ := (HA.out.1.keep bb).use
          clear hm bb
          (refine wpAnyH_take (i := 6) (oi := _) (v := ?v6z18) rfl (by kernel_rfl) (by kernel_rfl) (by kernel_rfl) (fun _ _ _ h => h) (Or.inl ⟨by kernel_rfl, ?y6z18⟩) (by assumption) ?r6z18; case y6z18 => (intro w hSw; (try dsimp only at hSw); go_simp; (try with_reducible rfl))); (try simp only [List.getElem_toArray, List.getElem_cons_succ, List.getElem_cons_zero, Act.put, List.setIfInBounds_toArray, List.set_cons_zero, List.set_cons_succ])
          (refine wpAnyH_take (i := 7) (oi := _) (v := ?v7z19) rfl (by kernel_rfl) (by kernel_rfl) (by kernel_rfl) (fun _ _ _ h => h) (Or.inl ⟨by kernel_rfl, ?y7z19⟩) (by assumption) ?r7z19; case y7z19 => (intro w hSw; (try dsimp only at hSw); go_simp; (try with_reducible rfl))); (try simp only [List.getElem_toArray, List.getElem_cons_succ, List.getElem_cons_zero, Act.put, List.setIfInBounds_toArray, List.set_cons_zero, List.set_cons_succ])
          (refine wpAnyH_take (i := 8) (oi := _) (v := ?v8z20) rfl (by kernel_rfl) (by kernel_rfl) (by kernel_rfl) (fun _ _ _ h => h) (Or.inl ⟨by kernel_rfl, ?y8z20⟩) (by assumption) ?r8z20; case y8z20 => (intro w hSw; (try dsimp only at hSw); go_simp; (try with_reducible rfl))); (try simp only [List.getElem_toArray, List.getElem_cons_succ, List.getElem_cons_zero, Act.put, List.setIfInBounds_toArray, List.set_cons_zero, List.set_cons_succ])
          refine wpAnyH_ready (rs := [9]) (by kernel_rfl) (by simp) ?_
          refine AllReadyH.cons (o := _) rfl (fun K hK => ?_) AllReadyH.nil
          go_simp
          refine hK.out _ _ trivial (fun _ => ?_)
          clear hK K
          try try simp only [List.getElem_toArray, List.getElem_cons_succ, List.getElem_cons_zero, Act.put, List.setIfInBounds_toArray, List.set_cons_zero, List.set_cons_succ]
          refine wpAnyH_done (by kernel_rfl) ?_ _
          refine NoPanic.normal ?_
          clear u0 u1 u2 u3
          have X3 := X2.out
          rw [head_step hi7 (by decide)] at X3
          have X4 := Lib.hid X3
          clear X3 X2
          go_wp2_with fail
          go_roundw
          case rel => exact ⟨i + 1, by simp, by omega, X4⟩
          case measure => simp [intOf]; omega
      · go_simp
        refine (HFL.out _).mono ?_
        rintro e w9 ⟨rfl, rfl⟩
        go_wp2_with fail
        refine hK.out _ _ trivial (fun _ => ?_)
        clear hK K
        try try simp only [List.getElem_toArray, List.getElem_cons_succ, List.getElem_cons_zero, Act.put, List.setIfInBounds_toArray, List.set_cons_zero, List.set_cons_succ]
        refine wpAnyH_ready (rs := [0]) (by kernel_rfl) (by simp) ?_
        refine AllReadyH.cons (o := _) rfl (fun K hK => ?_) (AllReadyH.nil)
        · go_simp
          refine hK.out _ _ trivial (fun _ => ?_)
          clear hK K
          try try simp only [List.getElem_toArray, List.getElem_cons_succ, List.getElem_cons_zero, Act.put, List.setIfInBounds_toArray, List.set_cons_zero, List.set_cons_succ]
          refine wpAnyH_ready (rs := [5]) (by kernel_rfl) (by simp) ?_
          refine AllReadyH.cons (o := _) rfl (fun K hK => ?_) AllReadyH.nil
          go_simp
          refine HC.out.mono ?_
          rintro e w2 ⟨A', L', c', P', K', d', C, rfl, hm, bb⟩
          go_wp2_with fail
          refine hK.out _ _ trivial (fun _ => ?_)
          clear hK K
          try try simp only [List.getElem_toArray, List.getElem_cons_succ, List.getElem_cons_zero, Act.put, List.setIfInBounds_toArray, List.set_cons_zero, List.set_cons_succ]
          have X2 := Lib.hid (hdat_put (p := 32 + 8 * i) ((numN i : Nat) : Int) HA.out HR.out HQ.out HL.out HBW.out HW.out bb (by rw [← HQP.out, ← HQF.out] at hm; exact hm) (by omega) (by omega))
          obtain ⟨u0, u1, u2, u3⟩ := (HA.out.1.keep bb).use
          clear hm bb
          (refine wpAnyH_take (i := 6) (oi := _) (v := ?v6z21) rfl (by kernel_rfl) (by kernel_rfl) (by kernel_rfl) (fun _ _ _ h => h) (Or.inl ⟨by kernel_rfl, ?y6z21⟩) (by assumption) ?r6z21; case y6z21 => (intro w hSw; (try dsimp only at hSw); go_simp; (try with_reducible rfl))); (try simp only [List.getElem_toArray, List.getElem_cons_succ, List.getElem_cons_zero, Act.put, List.setIfInBounds_toArray, List.set_cons_zero, List.set_cons_succ])
          (refine wpAnyH_take (i := 7) (oi := _) (v := ?v7z22) rfl (by kernel_rfl) (by kernel_rfl) (by kernel_rfl) (fun _ _ _ h => h) (Or.inl ⟨by kernel_rfl, ?y7z22⟩) (by assumption) ?r7z22; case y7z22 => (intro w hSw; (try dsimp only at hSw); go_simp; (try with_reducible rfl))); (try simp only [List.getElem_toArray, List.getElem_cons_succ, List.getElem_cons_zero, Act.put, List.setIfInBounds_toArray, List.set_cons_zero, List.set_cons_succ])
          (refine wpAnyH_take (i := 8) (oi := _) (v := ?v8z23) rfl (by kernel_rfl) (by kernel_rfl) (by kernel_rfl) (fun _ _ _ h => h) (Or.inl ⟨by kernel_rfl, ?y8z23⟩) (by assumption) ?r8z23; case y8z23 => (intro w hSw; (try dsimp only at hSw); go_simp; (try with_reducible rfl))); (try simp only [List.getElem_toArray, List.getElem_cons_succ, List.getElem_cons_zero, Act.put, List.setIfInBounds_toArray, List.set_cons_zero, List.set_cons_succ])
          refine wpAnyH_ready (rs := [9]) (by kernel_rfl) (by simp) ?_
          refine AllReadyH.cons (o := _) rfl (fun K hK => ?_) AllReadyH.nil
          go_simp
          refine hK.out _ _ trivial (fun _ => ?_)
          clear hK K
          try try simp only [List.getElem_toArray, List.getElem_cons_succ, List.getElem_cons_zero, Act.put, List.setIfInBounds_toArray, List.set_cons_zero, List.set_cons_succ]
          refine wpAnyH_done (by kernel_rfl) ?_ _
          refine NoPanic.normal ?_
          clear u0 u1 u2 u3
          have X3 := X2.out
          rw [head_step hi7 (by decide)] at X3
          have X4 := Lib.hid X3
          clear X3 X2
          go_wp2_with fail
          go_roundw
          case rel => exact ⟨i + 1, by simp, by omega, X4⟩
          case measure => simp [intOf]; omega
  · obtain rfl : i = 167 := by omega
    rw [head_last] at HX
    clear hi7 hi
    obtain ⟨A, P, L, c, K, d, m, hAt, hr, hq, hl, hbw, hBW⟩ := HX.out
    obtain ⟨p0, p1⟩ := hAt.use
    have HA := Lib.hid hAt
    have HR := Lib.hid hr
    have HQ := Lib.hid hq
    have HL := Lib.hid hl
    have HBW := Lib.hid hbw
    have HW := Lib.hid hBW
    clear hAt hr hq hl hbw hBW
    have hzz := HZ.out.keep HW.out
    obtain ⟨z0, z1, z2, z3⟩ := hzz.use
    have HZZ := Lib.hid hzz
    clear hzz
    go_wp2_with fail
    refine (free_at A P L c K d _).mono ?_
    rintro e w2 ⟨rfl, bb⟩
    have H2 := Lib.hid (HZZ.out.keep bb)
    have HM : Hid (IsMem w2 (.agg #[.slice A L c, .slice none 0 0]) (rowN 1368 167, [])) := by
      obtain ⟨x, y, e, h, k⟩ := HA.out.2
      injection e with e
      injection e with e
      injection e with e1 e2
      subst e1
      rw [HR.out] at h
      exact mem_mk (h.keep bb) (pats_nil _)
    have HB2 := Lib.hid (below_then HB0.out (below_then HW.out bb))
    clear z0 z1 z2 z3 p0 p1 bb
    obtain ⟨z0, z1, z2, z3⟩ := H2.out.use
    go_wp2_with fail
    refine bodyPost_ret (v := .agg #[.slice A L c, .slice none 0 0]) ?_ rfl ?_
    · obtain ⟨r0, r1⟩ := H2.out.got (.slice A L c) (.slice none 0 0)
      simp [results, Tryd.results54, go_sem, r0, r1]
    · exact ⟨A, L, c, rfl, HM.out.row H2.out (row_put _ _ _ _), (HB2.out.setCell (by simp) _).setCell (by simp) _⟩
end Go.Proofs.YtbighilgkmfemaaDoor
