/- Part 44. -/
import Derived.Test.YtlgnijhemfkflaaGreatDoorPqBQ
set_option linter.unusedVariables false
set_option linter.unusedSimpArgs false
set_option maxRecDepth 100000
set_option maxHeartbeats 4000000

namespace Go.Proofs.YtlgnijhemfkflaaGreatDoor
open Go.RowKit


theorem bits_cell {c : Int} (h : cellR c) : cellR (-1 - c):=by unfold cellR at *; omega
theorem wrap_cell (n : Int) : cellR (wrap64 n):=by unfold cellR wrap64; omega
theorem here_cell : cellR 1368:=by unfold cellR; decide
theorem zero_cell : cellR 0:=by unfold cellR; decide
theorem r25_0 (a b c : Int) : doE 25 stS (stL [a,b,c]) = ⟨0,[],stS,stL [a,c,b]⟩:=by kernel_rfl
theorem r25_1 (a b c : Int) : doE 25 stS (stL [a,c,b]) = ⟨0,[],stS,stL [a,b,c]⟩:=by kernel_rfl
theorem r27_2 (a b c : Int) : doE 27 stS (stL [a,b,c]) = ⟨0,[],stS,stL [b,c,a]⟩:=by kernel_rfl
theorem r28_3 (a b c : Int) : doE 28 stS (stL [b,c,a]) = ⟨0,[],stS,stL [a,b,c]⟩:=by kernel_rfl
theorem r23_4 (a b c : Int) : doE 23 stS (stL [a,b,c]) = ⟨0,[],stS,stL [a,b,c,c]⟩:=by kernel_rfl
theorem r24_5 (a b c : Int) : doE 24 stS (stL [a,b,c,c]) = ⟨0,[],stS,stL [a,b,c]⟩:=by kernel_rfl
theorem r26_6 (a b c : Int) : doE 26 stS (stL [a,b,c]) = ⟨0,[],stS,stL [a,b,c,b]⟩:=by kernel_rfl
theorem r24_7 (a b c : Int) : doE 24 stS (stL [a,b,c,b]) = ⟨0,[],stS,stL [a,b,c]⟩:=by kernel_rfl
theorem r59_8 (a b c : Int) : doE 59 stS (stL [a,b,c]) = ⟨0,[],stS,stL [a,b,wrap64 (-c)]⟩:=by kernel_rfl
theorem r59_9 (a b c : Int) : doE 59 stS (stL [a,b,wrap64 (-c)]) = ⟨0,[],stS,stL [a,b,wrap64 (-wrap64 (-c))]⟩:=by kernel_rfl
theorem r61_10 (a b c : Int) : doE 61 stS (stL [a,b,c]) = ⟨0,[],stS,stL [a,b,-1 - c]⟩:=by kernel_rfl
theorem r61_11 (a b c : Int) : doE 61 stS (stL [a,b,-1 - c]) = ⟨0,[],stS,stL [a,b,-1 - (-1 - c)]⟩:=by kernel_rfl
theorem r62_12 (a b c : Int) : doE 62 stS (stL [a,b,c]) = ⟨0,[],stS,stL [a,b,wrap64 (c + 1)]⟩:=by kernel_rfl
theorem r63_13 (a b c : Int) : doE 63 stS (stL [a,b,wrap64 (c + 1)]) = ⟨0,[],stS,stL [a,b,wrap64 (wrap64 (c + 1) - 1)]⟩:=by kernel_rfl
theorem r81_14 (a b c : Int) : doE 81 stS (stL [a,b,c]) = ⟨0,[],stS,stL [a,b,c,truthN (decide (c < 0))]⟩:=by kernel_rfl
theorem r24_15 (a b c : Int) : doE 24 stS (stL [a,b,c,truthN (decide (c < 0))]) = ⟨0,[],stS,stL [a,b,c]⟩:=by kernel_rfl
theorem r32_16 (a b c : Int) : doE 32 stS (stL [a,b,c]) = ⟨0,[],stS,stL [a,b,c,b,c]⟩:=by kernel_rfl
theorem r33_17 (a b c : Int) : doE 33 stS (stL [a,b,c,b,c]) = ⟨0,[],stS,stL [a,b,c]⟩:=by kernel_rfl
theorem r93_18 (a b c : Int) : doE 93 stS (stL [a,b,c]) = ⟨0,[],stS,stL [a,b,c,1368]⟩:=by kernel_rfl
theorem r24_19 (a b c : Int) : doE 24 stS (stL [a,b,c,1368]) = ⟨0,[],stS,stL [a,b,c]⟩:=by kernel_rfl
theorem r30_20 (a b c : Int) : doE 30 stS (stL [a,b,c]) = ⟨0,[],stS,stL [a,c,b,c]⟩:=by kernel_rfl
theorem r26_21 (a b c : Int) : doE 26 stS (stL [a,c,b]) = ⟨0,[],stS,stL [a,c,b,c]⟩:=by kernel_rfl
theorem r29_22 (a b c : Int) : doE 29 stS (stL [a,b,c]) = ⟨0,[],stS,stL [a,c]⟩:=by kernel_rfl
theorem r24_23 (a b c : Int) : doE 24 stS (stL [a,c,b]) = ⟨0,[],stS,stL [a,c]⟩:=by kernel_rfl
theorem r26_24 (a b c : Int) : doE 26 stS (stL [a,b,c,b]) = ⟨0,[],stS,stL [a,b,c,b,c]⟩:=by kernel_rfl
theorem r66_25 (a b c : Int) : doE 66 stS (stL [a,b,c]) = ⟨0,[],stS,stL [a,b,(oneF (nmP 66) c).getD 0]⟩:=by kernel_rfl
theorem r101_26 (a b c : Int) : doE 101 stS (stL [a,b,c]) = ⟨0,[],stS,stL [a,b,c,0]⟩:=by kernel_rfl
theorem r51_27 (a b c : Int) : doE 51 stS (stL [a,b,c,0]) = ⟨0,[],stS,stL [a,b,(twoF (nmP 51) c 0).getD 0]⟩:=by kernel_rfl
theorem r67_28 (a b c : Int) : doE 67 stS (stL [a,b,c]) = ⟨0,[],stS,stL [a,b,(oneF (nmP 67) c).getD 0]⟩:=by kernel_rfl
theorem r53_29 (a b c : Int) : doE 53 stS (stL [a,b,c,0]) = ⟨0,[],stS,stL [a,b,(twoF (nmP 53) c 0).getD 0]⟩:=by kernel_rfl
theorem r40_30 (a b c : Int) : doE 40 stS (stL [a,b,c]) = ⟨0,[],stS,stL [a,wrap64 (b - c)]⟩:=by kernel_rfl
theorem r39_31 (a b c : Int) : doE 39 stS (stL [a,b,wrap64 (-c)]) = ⟨0,[],stS,stL [a,wrap64 (b + wrap64 (-c))]⟩:=by kernel_rfl
theorem r64_32 (a b c : Int) : doE 64 stS (stL [a,b,c]) = ⟨0,[],stS,stL [a,b,(oneF (nmP 64) c).getD 0]⟩:=by kernel_rfl
theorem r39_33 (a b c : Int) : doE 39 stS (stL [a,b,c,c]) = ⟨0,[],stS,stL [a,b,wrap64 (c + c)]⟩:=by kernel_rfl
theorem truth_cell (b : Bool) : cellR (truthN b):=by cases b <;> (unfold truthN cellR; decide)
theorem neg_back {c : Int} (hc : cellR c) : wrap64 (-wrap64 (-c)) = c:=by unfold cellR at hc; unfold wrap64; omega
theorem one_back {c : Int} (hc : cellR c) : wrap64 (wrap64 (c + 1) - 1) = c:=by unfold cellR at hc; unfold wrap64; omega
theorem inv_back (c : Int) : -1 - (-1 - c) = c:=by omega
theorem eq_zero (c : Int) : (oneF (nmP 66) c).getD 0 = (twoF (nmP 51) c 0).getD 0:=by
  first | rfl | (show yes _ = yes _; congr 1)
theorem lt_zero (c : Int) : (oneF (nmP 67) c).getD 0 = (twoF (nmP 53) c 0).getD 0:=by
  first | rfl | (show yes _ = yes _; congr 1)
theorem sub_neg {b c : Int} : wrap64 (b - c) = wrap64 (b + wrap64 (-c)):=by unfold wrap64; omega
theorem two_same9 (c : Int) : (oneF (nmP 64) c).getD 0 = wrap64 (c + c):=by
  first | rfl | (show wrap64 _ = wrap64 _; congr 1; done) | (show wrap64 _ = wrap64 _; congr 1; omega)
theorem row_0 {a b c : Int} (ha : cellR a) (hb : cellR b) (hc : cellR c) : runE [25,25] stS (stL [a,b,c]) = (true,stS,stL [a,b,c]) ∧ OkRun [25,25] stS (stL [a,b,c]):=by
  exact ⟨((run_cons 25 (r25_0 a b c)).trans ((run_cons 25 (r25_1 a b c)).trans rfl)),(ok_cons (ok_st (Sc.refl _) (by show 3 ≤ 32; decide) (List.forall_mem_cons.2 ⟨ha,(List.forall_mem_cons.2 ⟨hb,(List.forall_mem_cons.2 ⟨hc,(List.forall_mem_nil _)⟩)⟩)⟩)) (r25_0 a b c) (ok_cons (ok_st (Sc.refl _) (by show 3 ≤ 32; decide) (List.forall_mem_cons.2 ⟨ha,(List.forall_mem_cons.2 ⟨hc,(List.forall_mem_cons.2 ⟨hb,(List.forall_mem_nil _)⟩)⟩)⟩)) (r25_1 a b c) trivial))⟩
theorem row_1 {a b c : Int} (ha : cellR a) (hb : cellR b) (hc : cellR c) : runE [27,28] stS (stL [a,b,c]) = (true,stS,stL [a,b,c]) ∧ OkRun [27,28] stS (stL [a,b,c]):=by
  exact ⟨((run_cons 27 (r27_2 a b c)).trans ((run_cons 28 (r28_3 a b c)).trans rfl)),(ok_cons (ok_st (Sc.refl _) (by show 3 ≤ 32; decide) (List.forall_mem_cons.2 ⟨ha,(List.forall_mem_cons.2 ⟨hb,(List.forall_mem_cons.2 ⟨hc,(List.forall_mem_nil _)⟩)⟩)⟩)) (r27_2 a b c) (ok_cons (ok_st (Sc.refl _) (by show 3 ≤ 32; decide) (List.forall_mem_cons.2 ⟨hb,(List.forall_mem_cons.2 ⟨hc,(List.forall_mem_cons.2 ⟨ha,(List.forall_mem_nil _)⟩)⟩)⟩)) (r28_3 a b c) trivial))⟩
theorem row_2 {a b c : Int} (ha : cellR a) (hb : cellR b) (hc : cellR c) : runE [23,24] stS (stL [a,b,c]) = (true,stS,stL [a,b,c]) ∧ OkRun [23,24] stS (stL [a,b,c]):=by
  exact ⟨((run_cons 23 (r23_4 a b c)).trans ((run_cons 24 (r24_5 a b c)).trans rfl)),(ok_cons (ok_st (Sc.refl _) (by show 3 ≤ 32; decide) (List.forall_mem_cons.2 ⟨ha,(List.forall_mem_cons.2 ⟨hb,(List.forall_mem_cons.2 ⟨hc,(List.forall_mem_nil _)⟩)⟩)⟩)) (r23_4 a b c) (ok_cons (ok_st (Sc.refl _) (by show 4 ≤ 32; decide) (List.forall_mem_cons.2 ⟨ha,(List.forall_mem_cons.2 ⟨hb,(List.forall_mem_cons.2 ⟨hc,(List.forall_mem_cons.2 ⟨hc,(List.forall_mem_nil _)⟩)⟩)⟩)⟩)) (r24_5 a b c) trivial))⟩
theorem row_3 {a b c : Int} (ha : cellR a) (hb : cellR b) (hc : cellR c) : runE [26,24] stS (stL [a,b,c]) = (true,stS,stL [a,b,c]) ∧ OkRun [26,24] stS (stL [a,b,c]):=by
  exact ⟨((run_cons 26 (r26_6 a b c)).trans ((run_cons 24 (r24_7 a b c)).trans rfl)),(ok_cons (ok_st (Sc.refl _) (by show 3 ≤ 32; decide) (List.forall_mem_cons.2 ⟨ha,(List.forall_mem_cons.2 ⟨hb,(List.forall_mem_cons.2 ⟨hc,(List.forall_mem_nil _)⟩)⟩)⟩)) (r26_6 a b c) (ok_cons (ok_st (Sc.refl _) (by show 4 ≤ 32; decide) (List.forall_mem_cons.2 ⟨ha,(List.forall_mem_cons.2 ⟨hb,(List.forall_mem_cons.2 ⟨hc,(List.forall_mem_cons.2 ⟨hb,(List.forall_mem_nil _)⟩)⟩)⟩)⟩)) (r24_7 a b c) trivial))⟩
theorem row_4 {a b c : Int} (ha : cellR a) (hb : cellR b) (hc : cellR c) : runE [59,59] stS (stL [a,b,c]) = (true,stS,stL [a,b,c]) ∧ OkRun [59,59] stS (stL [a,b,c]):=by
  have h : runE [59,59] stS (stL [a,b,c]) = (true,stS,stL [a,b,wrap64 (-wrap64 (-c))]):=((run_cons 59 (r59_8 a b c)).trans ((run_cons 59 (r59_9 a b c)).trans rfl));rw [neg_back hc] at h;exact ⟨h,(ok_cons (ok_st (Sc.refl _) (by show 3 ≤ 32; decide) (List.forall_mem_cons.2 ⟨ha,(List.forall_mem_cons.2 ⟨hb,(List.forall_mem_cons.2 ⟨hc,(List.forall_mem_nil _)⟩)⟩)⟩)) (r59_8 a b c) (ok_cons (ok_st (Sc.refl _) (by show 3 ≤ 32; decide) (List.forall_mem_cons.2 ⟨ha,(List.forall_mem_cons.2 ⟨hb,(List.forall_mem_cons.2 ⟨(wrap_cell _),(List.forall_mem_nil _)⟩)⟩)⟩)) (r59_9 a b c) trivial))⟩
theorem row_5 {a b c : Int} (ha : cellR a) (hb : cellR b) (hc : cellR c) : runE [61,61] stS (stL [a,b,c]) = (true,stS,stL [a,b,c]) ∧ OkRun [61,61] stS (stL [a,b,c]):=by
  have h : runE [61,61] stS (stL [a,b,c]) = (true,stS,stL [a,b,-1 - (-1 - c)]):=((run_cons 61 (r61_10 a b c)).trans ((run_cons 61 (r61_11 a b c)).trans rfl));rw [inv_back c] at h;exact ⟨h,(ok_cons (ok_st (Sc.refl _) (by show 3 ≤ 32; decide) (List.forall_mem_cons.2 ⟨ha,(List.forall_mem_cons.2 ⟨hb,(List.forall_mem_cons.2 ⟨hc,(List.forall_mem_nil _)⟩)⟩)⟩)) (r61_10 a b c) (ok_cons (ok_st (Sc.refl _) (by show 3 ≤ 32; decide) (List.forall_mem_cons.2 ⟨ha,(List.forall_mem_cons.2 ⟨hb,(List.forall_mem_cons.2 ⟨(bits_cell hc),(List.forall_mem_nil _)⟩)⟩)⟩)) (r61_11 a b c) trivial))⟩
theorem row_6 {a b c : Int} (ha : cellR a) (hb : cellR b) (hc : cellR c) : runE [62,63] stS (stL [a,b,c]) = (true,stS,stL [a,b,c]) ∧ OkRun [62,63] stS (stL [a,b,c]):=by
  have h : runE [62,63] stS (stL [a,b,c]) = (true,stS,stL [a,b,wrap64 (wrap64 (c + 1) - 1)]):=((run_cons 62 (r62_12 a b c)).trans ((run_cons 63 (r63_13 a b c)).trans rfl));rw [one_back hc] at h;exact ⟨h,(ok_cons (ok_st (Sc.refl _) (by show 3 ≤ 32; decide) (List.forall_mem_cons.2 ⟨ha,(List.forall_mem_cons.2 ⟨hb,(List.forall_mem_cons.2 ⟨hc,(List.forall_mem_nil _)⟩)⟩)⟩)) (r62_12 a b c) (ok_cons (ok_st (Sc.refl _) (by show 3 ≤ 32; decide) (List.forall_mem_cons.2 ⟨ha,(List.forall_mem_cons.2 ⟨hb,(List.forall_mem_cons.2 ⟨(wrap_cell _),(List.forall_mem_nil _)⟩)⟩)⟩)) (r63_13 a b c) trivial))⟩
theorem row_7 {a b c : Int} (ha : cellR a) (hb : cellR b) (hc : cellR c) : runE [81,24] stS (stL [a,b,c]) = (true,stS,stL [a,b,c]) ∧ OkRun [81,24] stS (stL [a,b,c]):=by
  exact ⟨((run_cons 81 (r81_14 a b c)).trans ((run_cons 24 (r24_15 a b c)).trans rfl)),(ok_cons (ok_st (Sc.refl _) (by show 3 ≤ 32; decide) (List.forall_mem_cons.2 ⟨ha,(List.forall_mem_cons.2 ⟨hb,(List.forall_mem_cons.2 ⟨hc,(List.forall_mem_nil _)⟩)⟩)⟩)) (r81_14 a b c) (ok_cons (ok_st (Sc.refl _) (by show 4 ≤ 32; decide) (List.forall_mem_cons.2 ⟨ha,(List.forall_mem_cons.2 ⟨hb,(List.forall_mem_cons.2 ⟨hc,(List.forall_mem_cons.2 ⟨(truth_cell _),(List.forall_mem_nil _)⟩)⟩)⟩)⟩)) (r24_15 a b c) trivial))⟩
theorem row_8 {a b c : Int} (ha : cellR a) (hb : cellR b) (hc : cellR c) : runE [32,33] stS (stL [a,b,c]) = (true,stS,stL [a,b,c]) ∧ OkRun [32,33] stS (stL [a,b,c]):=by
  exact ⟨((run_cons 32 (r32_16 a b c)).trans ((run_cons 33 (r33_17 a b c)).trans rfl)),(ok_cons (ok_st (Sc.refl _) (by show 3 ≤ 32; decide) (List.forall_mem_cons.2 ⟨ha,(List.forall_mem_cons.2 ⟨hb,(List.forall_mem_cons.2 ⟨hc,(List.forall_mem_nil _)⟩)⟩)⟩)) (r32_16 a b c) (ok_cons (ok_st (Sc.refl _) (by show 5 ≤ 32; decide) (List.forall_mem_cons.2 ⟨ha,(List.forall_mem_cons.2 ⟨hb,(List.forall_mem_cons.2 ⟨hc,(List.forall_mem_cons.2 ⟨hb,(List.forall_mem_cons.2 ⟨hc,(List.forall_mem_nil _)⟩)⟩)⟩)⟩)⟩)) (r33_17 a b c) trivial))⟩
theorem row_9 {a b c : Int} (ha : cellR a) (hb : cellR b) (hc : cellR c) : runE [93,24] stS (stL [a,b,c]) = (true,stS,stL [a,b,c]) ∧ OkRun [93,24] stS (stL [a,b,c]):=by
  exact ⟨((run_cons 93 (r93_18 a b c)).trans ((run_cons 24 (r24_19 a b c)).trans rfl)),(ok_cons (ok_st (Sc.refl _) (by show 3 ≤ 32; decide) (List.forall_mem_cons.2 ⟨ha,(List.forall_mem_cons.2 ⟨hb,(List.forall_mem_cons.2 ⟨hc,(List.forall_mem_nil _)⟩)⟩)⟩)) (r93_18 a b c) (ok_cons (ok_st (Sc.refl _) (by show 4 ≤ 32; decide) (List.forall_mem_cons.2 ⟨ha,(List.forall_mem_cons.2 ⟨hb,(List.forall_mem_cons.2 ⟨hc,(List.forall_mem_cons.2 ⟨here_cell,(List.forall_mem_nil _)⟩)⟩)⟩)⟩)) (r24_19 a b c) trivial))⟩
theorem left_0 {a b c : Int} (ha : cellR a) (hb : cellR b) (hc : cellR c) : runE [30] stS (stL [a,b,c]) = (true,stS,stL [a,c,b,c]) ∧ OkRun [30] stS (stL [a,b,c]):=by
  exact ⟨((run_cons 30 (r30_20 a b c)).trans rfl),(ok_cons (ok_st (Sc.refl _) (by show 3 ≤ 32; decide) (List.forall_mem_cons.2 ⟨ha,(List.forall_mem_cons.2 ⟨hb,(List.forall_mem_cons.2 ⟨hc,(List.forall_mem_nil _)⟩)⟩)⟩)) (r30_20 a b c) trivial)⟩
theorem rite_0 {a b c : Int} (ha : cellR a) (hb : cellR b) (hc : cellR c) : runE [25,26] stS (stL [a,b,c]) = (true,stS,stL [a,c,b,c]) ∧ OkRun [25,26] stS (stL [a,b,c]):=by
  exact ⟨((run_cons 25 (r25_0 a b c)).trans ((run_cons 26 (r26_21 a b c)).trans rfl)),(ok_cons (ok_st (Sc.refl _) (by show 3 ≤ 32; decide) (List.forall_mem_cons.2 ⟨ha,(List.forall_mem_cons.2 ⟨hb,(List.forall_mem_cons.2 ⟨hc,(List.forall_mem_nil _)⟩)⟩)⟩)) (r25_0 a b c) (ok_cons (ok_st (Sc.refl _) (by show 3 ≤ 32; decide) (List.forall_mem_cons.2 ⟨ha,(List.forall_mem_cons.2 ⟨hc,(List.forall_mem_cons.2 ⟨hb,(List.forall_mem_nil _)⟩)⟩)⟩)) (r26_21 a b c) trivial))⟩
theorem left_1 {a b c : Int} (ha : cellR a) (hb : cellR b) (hc : cellR c) : runE [29] stS (stL [a,b,c]) = (true,stS,stL [a,c]) ∧ OkRun [29] stS (stL [a,b,c]):=by
  exact ⟨((run_cons 29 (r29_22 a b c)).trans rfl),(ok_cons (ok_st (Sc.refl _) (by show 3 ≤ 32; decide) (List.forall_mem_cons.2 ⟨ha,(List.forall_mem_cons.2 ⟨hb,(List.forall_mem_cons.2 ⟨hc,(List.forall_mem_nil _)⟩)⟩)⟩)) (r29_22 a b c) trivial)⟩
theorem rite_1 {a b c : Int} (ha : cellR a) (hb : cellR b) (hc : cellR c) : runE [25,24] stS (stL [a,b,c]) = (true,stS,stL [a,c]) ∧ OkRun [25,24] stS (stL [a,b,c]):=by
  exact ⟨((run_cons 25 (r25_0 a b c)).trans ((run_cons 24 (r24_23 a b c)).trans rfl)),(ok_cons (ok_st (Sc.refl _) (by show 3 ≤ 32; decide) (List.forall_mem_cons.2 ⟨ha,(List.forall_mem_cons.2 ⟨hb,(List.forall_mem_cons.2 ⟨hc,(List.forall_mem_nil _)⟩)⟩)⟩)) (r25_0 a b c) (ok_cons (ok_st (Sc.refl _) (by show 3 ≤ 32; decide) (List.forall_mem_cons.2 ⟨ha,(List.forall_mem_cons.2 ⟨hc,(List.forall_mem_cons.2 ⟨hb,(List.forall_mem_nil _)⟩)⟩)⟩)) (r24_23 a b c) trivial))⟩
theorem left_2 {a b c : Int} (ha : cellR a) (hb : cellR b) (hc : cellR c) : runE [32] stS (stL [a,b,c]) = (true,stS,stL [a,b,c,b,c]) ∧ OkRun [32] stS (stL [a,b,c]):=by
  exact ⟨((run_cons 32 (r32_16 a b c)).trans rfl),(ok_cons (ok_st (Sc.refl _) (by show 3 ≤ 32; decide) (List.forall_mem_cons.2 ⟨ha,(List.forall_mem_cons.2 ⟨hb,(List.forall_mem_cons.2 ⟨hc,(List.forall_mem_nil _)⟩)⟩)⟩)) (r32_16 a b c) trivial)⟩
theorem rite_2 {a b c : Int} (ha : cellR a) (hb : cellR b) (hc : cellR c) : runE [26,26] stS (stL [a,b,c]) = (true,stS,stL [a,b,c,b,c]) ∧ OkRun [26,26] stS (stL [a,b,c]):=by
  exact ⟨((run_cons 26 (r26_6 a b c)).trans ((run_cons 26 (r26_24 a b c)).trans rfl)),(ok_cons (ok_st (Sc.refl _) (by show 3 ≤ 32; decide) (List.forall_mem_cons.2 ⟨ha,(List.forall_mem_cons.2 ⟨hb,(List.forall_mem_cons.2 ⟨hc,(List.forall_mem_nil _)⟩)⟩)⟩)) (r26_6 a b c) (ok_cons (ok_st (Sc.refl _) (by show 4 ≤ 32; decide) (List.forall_mem_cons.2 ⟨ha,(List.forall_mem_cons.2 ⟨hb,(List.forall_mem_cons.2 ⟨hc,(List.forall_mem_cons.2 ⟨hb,(List.forall_mem_nil _)⟩)⟩)⟩)⟩)) (r26_24 a b c) trivial))⟩
theorem left_3 {a b c : Int} (ha : cellR a) (hb : cellR b) (hc : cellR c) : runE [66] stS (stL [a,b,c]) = (true,stS,stL [a,b,(oneF (nmP 66) c).getD 0]) ∧ OkRun [66] stS (stL [a,b,c]):=by
  exact ⟨((run_cons 66 (r66_25 a b c)).trans rfl),(ok_cons (ok_st (Sc.refl _) (by show 3 ≤ 32; decide) (List.forall_mem_cons.2 ⟨ha,(List.forall_mem_cons.2 ⟨hb,(List.forall_mem_cons.2 ⟨hc,(List.forall_mem_nil _)⟩)⟩)⟩)) (r66_25 a b c) trivial)⟩
theorem rite_3 {a b c : Int} (ha : cellR a) (hb : cellR b) (hc : cellR c) : runE [101,51] stS (stL [a,b,c]) = (true,stS,stL [a,b,(oneF (nmP 66) c).getD 0]) ∧ OkRun [101,51] stS (stL [a,b,c]):=by
  have h : runE [101,51] stS (stL [a,b,c]) = (true,stS,stL [a,b,(twoF (nmP 51) c 0).getD 0]):=((run_cons 101 (r101_26 a b c)).trans ((run_cons 51 (r51_27 a b c)).trans rfl));rw [← eq_zero c] at h;exact ⟨h,(ok_cons (ok_st (Sc.refl _) (by show 3 ≤ 32; decide) (List.forall_mem_cons.2 ⟨ha,(List.forall_mem_cons.2 ⟨hb,(List.forall_mem_cons.2 ⟨hc,(List.forall_mem_nil _)⟩)⟩)⟩)) (r101_26 a b c) (ok_cons (ok_st (Sc.refl _) (by show 4 ≤ 32; decide) (List.forall_mem_cons.2 ⟨ha,(List.forall_mem_cons.2 ⟨hb,(List.forall_mem_cons.2 ⟨hc,(List.forall_mem_cons.2 ⟨zero_cell,(List.forall_mem_nil _)⟩)⟩)⟩)⟩)) (r51_27 a b c) trivial))⟩
theorem left_4 {a b c : Int} (ha : cellR a) (hb : cellR b) (hc : cellR c) : runE [67] stS (stL [a,b,c]) = (true,stS,stL [a,b,(oneF (nmP 67) c).getD 0]) ∧ OkRun [67] stS (stL [a,b,c]):=by
  exact ⟨((run_cons 67 (r67_28 a b c)).trans rfl),(ok_cons (ok_st (Sc.refl _) (by show 3 ≤ 32; decide) (List.forall_mem_cons.2 ⟨ha,(List.forall_mem_cons.2 ⟨hb,(List.forall_mem_cons.2 ⟨hc,(List.forall_mem_nil _)⟩)⟩)⟩)) (r67_28 a b c) trivial)⟩
theorem rite_4 {a b c : Int} (ha : cellR a) (hb : cellR b) (hc : cellR c) : runE [101,53] stS (stL [a,b,c]) = (true,stS,stL [a,b,(oneF (nmP 67) c).getD 0]) ∧ OkRun [101,53] stS (stL [a,b,c]):=by
  have h : runE [101,53] stS (stL [a,b,c]) = (true,stS,stL [a,b,(twoF (nmP 53) c 0).getD 0]):=((run_cons 101 (r101_26 a b c)).trans ((run_cons 53 (r53_29 a b c)).trans rfl));rw [← lt_zero c] at h;exact ⟨h,(ok_cons (ok_st (Sc.refl _) (by show 3 ≤ 32; decide) (List.forall_mem_cons.2 ⟨ha,(List.forall_mem_cons.2 ⟨hb,(List.forall_mem_cons.2 ⟨hc,(List.forall_mem_nil _)⟩)⟩)⟩)) (r101_26 a b c) (ok_cons (ok_st (Sc.refl _) (by show 4 ≤ 32; decide) (List.forall_mem_cons.2 ⟨ha,(List.forall_mem_cons.2 ⟨hb,(List.forall_mem_cons.2 ⟨hc,(List.forall_mem_cons.2 ⟨zero_cell,(List.forall_mem_nil _)⟩)⟩)⟩)⟩)) (r53_29 a b c) trivial))⟩
theorem left_5 {a b c : Int} (ha : cellR a) (hb : cellR b) (hc : cellR c) : runE [40] stS (stL [a,b,c]) = (true,stS,stL [a,wrap64 (b - c)]) ∧ OkRun [40] stS (stL [a,b,c]):=by
  exact ⟨((run_cons 40 (r40_30 a b c)).trans rfl),(ok_cons (ok_st (Sc.refl _) (by show 3 ≤ 32; decide) (List.forall_mem_cons.2 ⟨ha,(List.forall_mem_cons.2 ⟨hb,(List.forall_mem_cons.2 ⟨hc,(List.forall_mem_nil _)⟩)⟩)⟩)) (r40_30 a b c) trivial)⟩
theorem rite_5 {a b c : Int} (ha : cellR a) (hb : cellR b) (hc : cellR c) : runE [59,39] stS (stL [a,b,c]) = (true,stS,stL [a,wrap64 (b - c)]) ∧ OkRun [59,39] stS (stL [a,b,c]):=by
  have h : runE [59,39] stS (stL [a,b,c]) = (true,stS,stL [a,wrap64 (b + wrap64 (-c))]):=((run_cons 59 (r59_8 a b c)).trans ((run_cons 39 (r39_31 a b c)).trans rfl));rw [← sub_neg] at h;exact ⟨h,(ok_cons (ok_st (Sc.refl _) (by show 3 ≤ 32; decide) (List.forall_mem_cons.2 ⟨ha,(List.forall_mem_cons.2 ⟨hb,(List.forall_mem_cons.2 ⟨hc,(List.forall_mem_nil _)⟩)⟩)⟩)) (r59_8 a b c) (ok_cons (ok_st (Sc.refl _) (by show 3 ≤ 32; decide) (List.forall_mem_cons.2 ⟨ha,(List.forall_mem_cons.2 ⟨hb,(List.forall_mem_cons.2 ⟨(wrap_cell _),(List.forall_mem_nil _)⟩)⟩)⟩)) (r39_31 a b c) trivial))⟩
theorem left_6 {a b c : Int} (ha : cellR a) (hb : cellR b) (hc : cellR c) : runE [64] stS (stL [a,b,c]) = (true,stS,stL [a,b,(oneF (nmP 64) c).getD 0]) ∧ OkRun [64] stS (stL [a,b,c]):=by
  exact ⟨((run_cons 64 (r64_32 a b c)).trans rfl),(ok_cons (ok_st (Sc.refl _) (by show 3 ≤ 32; decide) (List.forall_mem_cons.2 ⟨ha,(List.forall_mem_cons.2 ⟨hb,(List.forall_mem_cons.2 ⟨hc,(List.forall_mem_nil _)⟩)⟩)⟩)) (r64_32 a b c) trivial)⟩
theorem rite_6 {a b c : Int} (ha : cellR a) (hb : cellR b) (hc : cellR c) : runE [23,39] stS (stL [a,b,c]) = (true,stS,stL [a,b,(oneF (nmP 64) c).getD 0]) ∧ OkRun [23,39] stS (stL [a,b,c]):=by
  have h : runE [23,39] stS (stL [a,b,c]) = (true,stS,stL [a,b,wrap64 (c + c)]):=((run_cons 23 (r23_4 a b c)).trans ((run_cons 39 (r39_33 a b c)).trans rfl));rw [← two_same9 c] at h;exact ⟨h,(ok_cons (ok_st (Sc.refl _) (by show 3 ≤ 32; decide) (List.forall_mem_cons.2 ⟨ha,(List.forall_mem_cons.2 ⟨hb,(List.forall_mem_cons.2 ⟨hc,(List.forall_mem_nil _)⟩)⟩)⟩)) (r23_4 a b c) (ok_cons (ok_st (Sc.refl _) (by show 4 ≤ 32; decide) (List.forall_mem_cons.2 ⟨ha,(List.forall_mem_cons.2 ⟨hb,(List.forall_mem_cons.2 ⟨hc,(List.forall_mem_cons.2 ⟨hc,(List.forall_mem_nil _)⟩)⟩)⟩)⟩)) (r39_33 a b c) trivial))⟩
end Go.Proofs.YtlgnijhemfkflaaGreatDoor

namespace Go.Proofs.YtlgnijhemfkflaaGreatDoor
open Go.RowKit


structure Free (k : VmK) (b : Nat) : Prop where
  p : k.pn = 0 ∨ ∀ q,k.pA = some q → q.block ≠ b
  d : k.dn = 0 ∨ ∀ q,k.dA = some q → q.block ≠ b
  r : k.rn = 0 ∨ ∀ q,k.rA = some q → q.block ≠ b
  f : k.fn = 0 ∨ ∀ q,k.fA = some q → q.block ≠ b
  w : k.wn = 0 ∨ ∀ q,k.wA = some q → q.block ≠ b
  e : k.en = 0 ∨ ∀ q,k.eA = some q → q.block ≠ b
  h : k.hn = 0 ∨ ∀ q,k.hA = some q → q.block ≠ b
theorem fl_len {α : Type} {enc : α → List Value} (s : Nat) (hs : ∀ y,(enc y).length = s) (l : List α) : (l.flatMap enc).length = l.length * s:=by
  rw [List.length_flatMap,show (l.map fun y => (enc y).length) = l.map fun _ => s from List.map_congr_left fun y _ => hs y,List.map_const',List.sum_replicate_nat]
theorem lies_low {w : World} {A : Option Addr} {xs : List Value} {n s b : Nat} (h : Lies w A xs) (e : xs.length = n * s) (hs : 0 < s) (hb : w.heap.size ≤ b) : n = 0 ∨ ∀ q,A = some q → q.block ≠ b:=by
  rcases h with h | ⟨g,o,ea,hg,_⟩
  · rw [h] at e
    have e : 0 = n * s:=e
    rcases Nat.mul_eq_zero.1 e.symm with h | h
    · exact .inl h
    · omega
  · refine .inr fun q hq eb => ?_
    rw [ea] at hq;cases hq
    simp at eb;omega
theorem free_of {w : World} {k : VmK} {L : VmL} {b : Nat} (h : IsVm w k L) (hb : w.heap.size ≤ b) : Free k b:=by
  refine ⟨?_,?_,?_,?_,?_,?_,?_⟩
  · obtain ⟨b0,o0,e,_,A,c,qs,h1,h2,h3,h4,h5⟩:=h.m
    injection e with e
    simp at e;obtain ⟨_,rfl⟩:=e;injection h1 with h1 hn hc
    subst h1;exact lies_low (n:=k.pn) (s:=2) h4 (by rw [pc_len,h5.1,hn]; omega) (by decide) hb
  · exact lies_low (n:=k.dn) (s:=1) h.d.2.2.2 (by rw [ints_len,h.d.1,Nat.mul_one]) (by decide) hb
  · exact lies_low (n:=k.rn) (s:=1) h.r.2.2.2 (by rw [ints_len,h.r.1,Nat.mul_one]) (by decide) hb
  · exact lies_low (n:=k.fn) (s:=3) h.f.lies (by rw [fl_len 3 (fun _ => rfl),h.f.len]) (by decide) hb
  · have hl:=h.dict.len
    exact lies_low (n:=k.wn) (s:=3) h.dict.lies (by rw [wds_len,hl]) (by decide) hb
  · exact lies_low (n:=k.en) (s:=6) h.e.lies (by rw [fl_len 6 (fun _ => rfl),h.e.len]) (by decide) hb
  · exact lies_low (n:=k.hn) (s:=4) h.h.lies (by rw [fl_len 4 (fun _ => rfl),h.h.len]) (by decide) hb
theorem newA_free {B n' n b : Nat} {A' A : Option Addr} (h : NewA B A' n' A n) (f : n = 0 ∨ ∀ q,A = some q → q.block ≠ b) (hb : b < B) : n' = 0 ∨ ∀ q,A' = some q → q.block ≠ b:=by
  rcases h with ⟨rfl,rfl⟩ | h
  · exact f
  · exact .inr fun q hq e => by have:=h q hq; omega
theorem free_loc {B b : Nat} {j k : VmK} (l : MLoc B j k) (f : Free k b) (hb : b < B) : Free j b :=
  ⟨newA_free l.p f.p hb,newA_free l.d f.d hb,by rw [l.r.1,l.r.2]; exact f.r,by rw [l.f.1,l.f.2]; exact f.f,by rw [l.w.1,l.w.2]; exact f.w,newA_free l.e f.e hb,by rw [l.h.1,l.h.2]; exact f.h⟩
theorem lies_free {u V : World} {A : Option Addr} {xs : List Value} {n s b : Nat} (h : Lies u A xs) (e : xs.length = n * s) (f : n = 0 ∨ ∀ q,A = some q → q.block ≠ b) (x : Ex (fun g => g = b) u V) : Lies V A xs:=by
  rcases f with f | f
  · refine .inl (List.eq_nil_of_length_eq_zero ?_)
    rw [e,f,Nat.zero_mul]
  · rcases h with h | ⟨g,o,ea,hg,hc⟩
    · exact .inl h
    · have hgb : g ≠ b:=f _ ea
      refine .inr ⟨g,o,ea,Nat.lt_of_lt_of_le hg x.size,fun i v hi => ?_⟩;have:=hc i v hi;unfold World.cell? at this ⊢;rw [x.same g hg hgb];exact this
theorem rws_free {α : Type} {enc : α → List Value} {s : Nat} (hs : ∀ y,(enc y).length = s) {u V : World} {A : Option Addr} {n c b : Nat} {l : List α} (h : Rws enc u (.slice A n c) l) (f : n = 0 ∨ ∀ q,A = some q → q.block ≠ b) (x : Ex (fun g => g = b) u V) : Rws enc V (.slice A n c) l:=by
  have h4:=lies_free (n:=n) (s:=s) h.lies (by rw [fl_len s hs,h.len]) f x;obtain ⟨A',c',e,h1,h2,_⟩:=h;exact ⟨A',c',e,h1,h2,by injection e with e1 _ _; subst e1; exact h4⟩
theorem isvm_free {u V : World} {k j : VmK} {L : VmL} {b : Nat} (h : IsVm u k L) (f : Free k b) (x : Ex (fun g => g = b) u V) (hb : VBox u b j) : IsVm V k L:=by
  have hv : ∀ g,g < u.heap.size → V.heap[g]? = u.heap[g]? ∨ NoU8 u g:=fun g hg => by
    by_cases e : g = b
    · subst e; exact .inr (vbox_nou8 hb)
    · exact .inl (x.same g hg e)
  refine ⟨?_,⟨h.d.1,h.d.2.1,h.d.2.2.1,lies_free (n:=k.dn) (s:=1) h.d.2.2.2 (by rw [ints_len,h.d.1,Nat.mul_one]) f.d x⟩,⟨h.r.1,h.r.2.1,h.r.2.2.1,lies_free (n:=k.rn) (s:=1) h.r.2.2.2 (by rw [ints_len,h.r.1,Nat.mul_one]) f.r x⟩,
    rws_free (s:=3) (fun _ => rfl) h.f f.f x,?_,byt_across h.o x.size hv,byt_across h.q x.size hv,rws_free (s:=6) (fun _ => rfl) h.e f.e x,rws_free (s:=4) (fun _ => rfl) h.h f.h x⟩
  · obtain ⟨b0,o0,e,h0,A,c,qs,h1,h2,h3,h4,h5⟩:=h.m
    have e9:=e;injection e with e
    simp at e;obtain ⟨rfl,rfl⟩:=e;have hh:=h1;injection h1 with h1 hn hc
    subst h1;exact ⟨_,_,rfl,byt_across h0 x.size hv,_,_,qs,hh,h2,h3,lies_free (n:=k.pn) (s:=2) h4 (by rw [pc_len,h5.1,hn]; omega) f.p x,h5.1,fun i q p hq hp => ⟨(h5.2 i q p hq hp).1,byt_across (h5.2 i q p hq hp).2 x.size hv⟩⟩
  · have hl:=h.dict.len
    have h4:=lies_free (n:=k.wn) (s:=3) h.dict.lies (by rw [wds_len,hl]) f.w x;obtain ⟨A',c',e,h1,h2,_⟩:=h.dict;exact ⟨A',c',e,h1,h2,by injection e with e1 _ _; subst e1; exact h4⟩
theorem free_stocked {w : World} {k j : VmK} {l : List Int} {b : Nat} (h : IsVm w k (stL l)) (hb : VBox w b j) (hd : ∀ q,k.dA = some q → q.block ≠ b) : Free k b:=by
  refine ⟨?_,.inr hd,.inl h.r.1.symm,.inl h.f.len.symm,?_,.inl h.e.len.symm,.inl h.h.len.symm⟩
  · obtain ⟨b0,o0,e,_,A,c,qs,h1,h2,h3,h4,h5⟩:=h.m
    injection e with e
    simp at e;obtain ⟨_,rfl⟩:=e;injection h1 with h1 hn hc
    exact .inl (hn.trans (by first | rfl | (rw [h5.1]; rfl)))
  · have hl:=h.dict.len
    obtain ⟨A',c',e,h1,h2,h4⟩:=h.dict;injection e with e1 e2 e3
    subst e1
    rcases h4 with h4 | ⟨g,o,ea,hg,hc⟩
    · obtain ⟨s,hs⟩:=newW_first
      have h4 : wds (newW 167) = []:=h4;rw [h4] at hs;cases hs
    · refine .inr fun q hq eb => ?_
      rw [ea] at hq;cases hq
      simp at eb;subst eb;obtain ⟨s,hs⟩:=newW_first;exact vbox_nostr hb _ _ (hc 0 _ hs)
end Go.Proofs.YtlgnijhemfkflaaGreatDoor
