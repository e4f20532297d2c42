/- Part 42. -/
import Derived.Test.YtlgnijhemfkflaaGreatDoorPaBJ
import Derived.Test.YtlgnijhemfkflaaGreatDoorPaBM
import Derived.Test.YtlgnijhemfkflaaGreatDoorPaBO
set_option linter.unusedVariables false
set_option linter.unusedSimpArgs false
set_option maxRecDepth 100000
set_option maxHeartbeats 4000000

namespace Go.Proofs.YtlgnijhemfkflaaGreatDoor
open Go.RowKit


def DeedsOut (n : Nat) (w : World) (e : Ending) (w' : World) : Prop:=∃ (b : Nat) (l : DRow) (j : Nat),e = .returned (.map (some b)) ∧ DMap w' b l ∧ l[j]? = some (strB (nmP n),doF n) ∧ (l.map (·.1)).Nodup ∧ Below w.heap.size w w'
theorem MapOut.deeds {l : DRow} {w : World} {e : Ending} {w' : World} (h : MapOut l w e w') {n : Nat} (j : Nat) (hj : l[j]? = some (strB (nmP n),doF n)) (hd : (l.map (·.1)).Nodup) : DeedsOut n w e w':=by
  obtain ⟨b,e1,h1,h2⟩:=h;exact ⟨b,l,j,e1,h1,hj,hd,h2⟩
theorem lies_part {w : World} {g a b : Nat} {xs : List Value} (h : Lies w (some ⟨g,0,none⟩) xs) : Lies w (some ⟨g,a,none⟩) ((xs.take b).drop a):=by
  rcases h with h | ⟨g',o,e,hg,hc⟩
  · exact .inl (by rw [h]; simp)
  · injection e with e
    injection e with e1 e2 _
    subst e1 e2;refine .inr ⟨g,a,rfl,hg,fun j v hv => ?_⟩;have:=hc (a + j) v;rw [Nat.zero_add] at this
    apply this
    rw [List.getElem?_drop,List.getElem?_take] at hv
    split at hv
    · exact hv
    · cases hv
theorem sts_part {w : World} {g n c : Nat} {l : List (List UInt8)} (h : Sts w (.slice (some ⟨g,0,none⟩) n c) l) {a b : Nat} (hab : a ≤ b) (hb : b ≤ n) : Sts w (.slice (some ⟨g,a,none⟩) (b - a) (c - a)) ((l.take b).drop a):=by
  have hl:=h.len;have h4:=lies_part (a:=a) (b:=b) h.lies;obtain ⟨A',c',e,h1,h2,_⟩:=h;injection e with e1 e2 e3
  subst e1 e3;have e9 : ((l.take b).drop a).length = b - a:=by rw [List.length_drop,List.length_take]; omega
  refine ⟨_,_,by rw [e9],by rw [e9]; omega,by omega,?_⟩;have : (sts l).take b = sts (l.take b):=by simp [sts,List.map_take]
  rw [this] at h4;have : (sts (l.take b)).drop a = sts ((l.take b).drop a):=by simp [sts,List.map_drop]
  rwa [this] at h4
theorem strB_list (s : List UInt8) : (strB s).data.toList = s:=by simp [strB]
theorem do_shuffled (n : Nat) (h1 : 23 ≤ n) (h2 : n < 39) (k : VmK) (L : VmL) : doE (n : Int) k L = (shufE (nmP n)) k L:=by
  unfold doE;rw [if_pos (by omega),if_pos (by omega)];rw [show ((n : Int).toNat) = n from by omega]
theorem nd_shuffled : (((primL.take 39).drop 23).map strB).Nodup:=by decide +kernel
theorem at_shuffled (n : Nat) (h1 : 23 ≤ n) (h2 : n < 39) : (eachL ((primL.take 39).drop 23) (fun s => shufE s))[n - 23]? = some (strB (nmP n),doF n):=by
  have hl : primL.length = 130:=by decide +kernel
  unfold eachL;rw [List.getElem?_map,List.getElem?_drop,List.getElem?_take,if_pos (by omega),show 23 + (n - 23) = n from by omega,List.getElem?_eq_getElem (by omega)];have e : primL[n]'(by omega) = nmP n:=by unfold nmP; rw [List.getD_eq_getElem?_getD,List.getElem?_eq_getElem (by omega)]; rfl
  rw [e];show some (strB (nmP n),_) = _
  congr 2
  funext k L
  exact (do_shuffled n h1 h2 k L).symm
theorem keys_shuffled : ((eachL ((primL.take 39).drop 23) (fun s => shufE s)).map (·.1)).Nodup:=by
  have e : (eachL ((primL.take 39).drop 23) (fun s => shufE s)).map (·.1) = ((primL.take 39).drop 23).map strB:=by
    unfold eachL;rw [List.map_map];rfl
  rw [e];exact nd_shuffled
theorem do_reckonedOfTwo (n : Nat) (h1 : 39 ≤ n) (h2 : n < 59) (k : VmK) (L : VmL) : doE (n : Int) k L = (deedE 2 (fun k L x => twoE (nmP n) k L (x.getD 0 0) (x.getD 1 0))) k L:=by
  have e1 : takesF n = 2:=by unfold takesF; rw [if_pos (by omega)]
  have e2 : ∀ k L x,effF n k L x = twoE (nmP n) k L (x.getD 0 0) (x.getD 1 0):=by intro k L x; unfold effF; rw [if_pos (by omega)]
  unfold doE;rw [if_pos (by omega),if_neg (by omega)];rw [show ((n : Int).toNat) = n from by omega];rw [e1];unfold deedE;simp only [e2]
theorem nd_reckonedOfTwo : (((primL.take 59).drop 39).map strB).Nodup:=by decide +kernel
theorem at_reckonedOfTwo (n : Nat) (h1 : 39 ≤ n) (h2 : n < 59) : (eachL ((primL.take 59).drop 39) (fun s => deedE 2 (fun k L x => twoE s k L (x.getD 0 0) (x.getD 1 0))))[n - 39]? = some (strB (nmP n),doF n):=by
  have hl : primL.length = 130:=by decide +kernel
  unfold eachL;rw [List.getElem?_map,List.getElem?_drop,List.getElem?_take,if_pos (by omega),show 39 + (n - 39) = n from by omega,List.getElem?_eq_getElem (by omega)];have e : primL[n]'(by omega) = nmP n:=by unfold nmP; rw [List.getD_eq_getElem?_getD,List.getElem?_eq_getElem (by omega)]; rfl
  rw [e];show some (strB (nmP n),_) = _
  congr 2
  funext k L
  exact (do_reckonedOfTwo n h1 h2 k L).symm
theorem keys_reckonedOfTwo : ((eachL ((primL.take 59).drop 39) (fun s => deedE 2 (fun k L x => twoE s k L (x.getD 0 0) (x.getD 1 0)))).map (·.1)).Nodup:=by
  have e : (eachL ((primL.take 59).drop 39) (fun s => deedE 2 (fun k L x => twoE s k L (x.getD 0 0) (x.getD 1 0)))).map (·.1) = ((primL.take 59).drop 39).map strB:=by
    unfold eachL;rw [List.map_map];rfl
  rw [e];exact nd_reckonedOfTwo
theorem do_reckonedOfOne (n : Nat) (h1 : 59 ≤ n) (h2 : n < 73) (k : VmK) (L : VmL) : doE (n : Int) k L = (deedE 1 (fun k L x => oneE (nmP n) k L (x.getD 0 0))) k L:=by
  have e1 : takesF n = 1:=by unfold takesF; rw [if_neg (by omega),if_pos (by omega)]
  have e2 : ∀ k L x,effF n k L x = oneE (nmP n) k L (x.getD 0 0):=by intro k L x; unfold effF; rw [if_neg (by omega),if_pos (by omega)]
  unfold doE;rw [if_pos (by omega),if_neg (by omega)];rw [show ((n : Int).toNat) = n from by omega];rw [e1];unfold deedE;simp only [e2]
theorem nd_reckonedOfOne : (((primL.take 73).drop 59).map strB).Nodup:=by decide +kernel
theorem at_reckonedOfOne (n : Nat) (h1 : 59 ≤ n) (h2 : n < 73) : (eachL ((primL.take 73).drop 59) (fun s => deedE 1 (fun k L x => oneE s k L (x.getD 0 0))))[n - 59]? = some (strB (nmP n),doF n):=by
  have hl : primL.length = 130:=by decide +kernel
  unfold eachL;rw [List.getElem?_map,List.getElem?_drop,List.getElem?_take,if_pos (by omega),show 59 + (n - 59) = n from by omega,List.getElem?_eq_getElem (by omega)];have e : primL[n]'(by omega) = nmP n:=by unfold nmP; rw [List.getD_eq_getElem?_getD,List.getElem?_eq_getElem (by omega)]; rfl
  rw [e];show some (strB (nmP n),_) = _
  congr 2
  funext k L
  exact (do_reckonedOfOne n h1 h2 k L).symm
theorem keys_reckonedOfOne : ((eachL ((primL.take 73).drop 59) (fun s => deedE 1 (fun k L x => oneE s k L (x.getD 0 0)))).map (·.1)).Nodup:=by
  have e : (eachL ((primL.take 73).drop 59) (fun s => deedE 1 (fun k L x => oneE s k L (x.getD 0 0)))).map (·.1) = ((primL.take 73).drop 59).map strB:=by
    unfold eachL;rw [List.map_map];rfl
  rw [e];exact nd_reckonedOfOne
theorem deeds_23 (n : Nat) (h1 : 23 ≤ n) (h2 : n < 39) (g : Nat) (w : World) (hs : Sts w (.slice (some ⟨g,0,none⟩) 130 130) primL) : Calls Tryz.prog 26 #[.slice (some ⟨g,0,none⟩) 130 130,.int .i64 (n : Int)] w (DeedsOut n w):=by
  have HC:=zqh (each_any _ _ _ _ 46 (enters_of Tryz.func46 (by kernel_rfl) rfl) (fun s => shufE s) w (sts_part hs (a:=23) (b:=39) (by decide) (by decide)) (by decide) nd_shuffled (fun s w => by have:=shuffled_is (strB s) w; rwa [strB_list] at this));have HM:=zqh (at_shuffled n h1 h2);have HK:=zqh keys_shuffled;have g39 : (n : Int) < 39:=by omega
  clear hs h1 h2;go_enter Tryz.func26,Tryz.ntmps26;(go_wp2_with fail);refine HC.out.mono ?_;rintro e w1 ⟨b,rfl,hm,bb⟩;(go_wp2_with fail);go_ret;exact ⟨b,_,_,rfl,hm,HM.out,HK.out,bb⟩
theorem deeds_39 (n : Nat) (h1 : 39 ≤ n) (h2 : n < 59) (g : Nat) (w : World) (hs : Sts w (.slice (some ⟨g,0,none⟩) 130 130) primL) : Calls Tryz.prog 26 #[.slice (some ⟨g,0,none⟩) 130 130,.int .i64 (n : Int)] w (DeedsOut n w):=by
  have HC:=zqh (each_any _ _ _ _ 47 (enters_of Tryz.func47 (by kernel_rfl) rfl) (fun s => deedE 2 (fun k L x => twoE s k L (x.getD 0 0) (x.getD 1 0))) w (sts_part hs (a:=39) (b:=59) (by decide) (by decide)) (by decide) nd_reckonedOfTwo (fun s w => by have:=reckonedOfTwo_is (strB s) w; rwa [strB_list] at this));have HM:=zqh (at_reckonedOfTwo n h1 h2);have HK:=zqh keys_reckonedOfTwo;have g39 : decide ((n : Int) < 39) = false:=by simp; omega
  have g59 : (n : Int) < 59:=by omega
  clear hs h1 h2;go_enter Tryz.func26,Tryz.ntmps26;(go_wp2_with fail);refine HC.out.mono ?_;rintro e w1 ⟨b,rfl,hm,bb⟩;(go_wp2_with fail);go_ret;exact ⟨b,_,_,rfl,hm,HM.out,HK.out,bb⟩
theorem deeds_59 (n : Nat) (h1 : 59 ≤ n) (h2 : n < 73) (g : Nat) (w : World) (hs : Sts w (.slice (some ⟨g,0,none⟩) 130 130) primL) : Calls Tryz.prog 26 #[.slice (some ⟨g,0,none⟩) 130 130,.int .i64 (n : Int)] w (DeedsOut n w):=by
  have HC:=zqh (each_any _ _ _ _ 48 (enters_of Tryz.func48 (by kernel_rfl) rfl) (fun s => deedE 1 (fun k L x => oneE s k L (x.getD 0 0))) w (sts_part hs (a:=59) (b:=73) (by decide) (by decide)) (by decide) nd_reckonedOfOne (fun s w => by have:=reckonedOfOne_is (strB s) w; rwa [strB_list] at this));have HM:=zqh (at_reckonedOfOne n h1 h2);have HK:=zqh keys_reckonedOfOne;have g39 : decide ((n : Int) < 39) = false:=by simp; omega
  have g59 : decide ((n : Int) < 59) = false:=by simp; omega
  have g73 : (n : Int) < 73:=by omega
  clear hs h1 h2;go_enter Tryz.func26,Tryz.ntmps26;(go_wp2_with fail);refine HC.out.mono ?_;rintro e w1 ⟨b,rfl,hm,bb⟩;(go_wp2_with fail);go_ret;exact ⟨b,_,_,rfl,hm,HM.out,HK.out,bb⟩
theorem deeds_73 (n : Nat) (h1 : 73 ≤ n) (h2 : n < 83) (g : Nat) (w : World) (hs : Sts w (.slice (some ⟨g,0,none⟩) 130 130) primL) : Calls Tryz.prog 26 #[.slice (some ⟨g,0,none⟩) 130 130,.int .i64 (n : Int)] w (DeedsOut n w):=by
  have HC:=zqh (wideDeeds_is w);have HO : Hid (∀ e w',MapOut [(⟨#[47,77,79,68]⟩,doF 73),(⟨#[42,47]⟩,doF 74),(⟨#[42,47,77,79,68]⟩,doF 75),(⟨#[85,77,42]⟩,doF 76),(⟨#[85,77,47,77,79,68]⟩,doF 77),(⟨#[77,42]⟩,doF 78),(⟨#[83,77,47,82,69,77]⟩,doF 79),(⟨#[70,77,47,77,79,68]⟩,doF 80),(⟨#[83,62,68]⟩,doF 81),(⟨#[87,73,84,72,73,78]⟩,doF 82)] w e w' → DeedsOut n w e w'):=zqh fun e w' h => by
    have hn : n = 73 ∨ n = 74 ∨ n = 75 ∨ n = 76 ∨ n = 77 ∨ n = 78 ∨ n = 79 ∨ n = 80 ∨ n = 81 ∨ n = 82:=by omega
    rcases hn with rfl | rfl | rfl | rfl | rfl | rfl | rfl | rfl | rfl | rfl
    · exact MapOut.deeds h 0 (by kernel_rfl) (by decide +kernel)
    · exact MapOut.deeds h 1 (by kernel_rfl) (by decide +kernel)
    · exact MapOut.deeds h 2 (by kernel_rfl) (by decide +kernel)
    · exact MapOut.deeds h 3 (by kernel_rfl) (by decide +kernel)
    · exact MapOut.deeds h 4 (by kernel_rfl) (by decide +kernel)
    · exact MapOut.deeds h 5 (by kernel_rfl) (by decide +kernel)
    · exact MapOut.deeds h 6 (by kernel_rfl) (by decide +kernel)
    · exact MapOut.deeds h 7 (by kernel_rfl) (by decide +kernel)
    · exact MapOut.deeds h 8 (by kernel_rfl) (by decide +kernel)
    · exact MapOut.deeds h 9 (by kernel_rfl) (by decide +kernel)
  have g39 : decide ((n : Int) < 39) = false:=by simp; omega
  have g59 : decide ((n : Int) < 59) = false:=by simp; omega
  have g73 : decide ((n : Int) < 73) = false:=by simp; omega
  have g83 : (n : Int) < 83:=by omega
  clear hs h1 h2;go_enter Tryz.func26,Tryz.ntmps26;(go_wp2_with fail);refine HC.out.mono ?_;rintro e w1 h;have h:=HO.out _ _ h;obtain ⟨b,l,j,rfl,hm,hj,hd,bb⟩:=h;(go_wp2_with fail);go_ret;exact ⟨b,l,j,rfl,hm,hj,hd,bb⟩
theorem deeds_83 (n : Nat) (h1 : 83 ≤ n) (h2 : n < 93) (g : Nat) (w : World) (hs : Sts w (.slice (some ⟨g,0,none⟩) 130 130) primL) : Calls Tryz.prog 26 #[.slice (some ⟨g,0,none⟩) 130 130,.int .i64 (n : Int)] w (DeedsOut n w):=by
  have HC:=zqh (cellDeeds_is w);have HO : Hid (∀ e w',MapOut [(⟨#[64]⟩,doF 83),(⟨#[33]⟩,doF 84),(⟨#[43,33]⟩,doF 85),(⟨#[67,64]⟩,doF 86),(⟨#[67,33]⟩,doF 87),(⟨#[50,64]⟩,doF 88),(⟨#[50,33]⟩,doF 89),(⟨#[70,73,76,76]⟩,doF 90),(⟨#[77,79,86,69]⟩,doF 91),(⟨#[67,79,85,78,84]⟩,doF 92)] w e w' → DeedsOut n w e w'):=zqh fun e w' h => by
    have hn : n = 83 ∨ n = 84 ∨ n = 85 ∨ n = 86 ∨ n = 87 ∨ n = 88 ∨ n = 89 ∨ n = 90 ∨ n = 91 ∨ n = 92:=by omega
    rcases hn with rfl | rfl | rfl | rfl | rfl | rfl | rfl | rfl | rfl | rfl
    · exact MapOut.deeds h 0 (by kernel_rfl) (by decide +kernel)
    · exact MapOut.deeds h 1 (by kernel_rfl) (by decide +kernel)
    · exact MapOut.deeds h 2 (by kernel_rfl) (by decide +kernel)
    · exact MapOut.deeds h 3 (by kernel_rfl) (by decide +kernel)
    · exact MapOut.deeds h 4 (by kernel_rfl) (by decide +kernel)
    · exact MapOut.deeds h 5 (by kernel_rfl) (by decide +kernel)
    · exact MapOut.deeds h 6 (by kernel_rfl) (by decide +kernel)
    · exact MapOut.deeds h 7 (by kernel_rfl) (by decide +kernel)
    · exact MapOut.deeds h 8 (by kernel_rfl) (by decide +kernel)
    · exact MapOut.deeds h 9 (by kernel_rfl) (by decide +kernel)
  have g39 : decide ((n : Int) < 39) = false:=by simp; omega
  have g59 : decide ((n : Int) < 59) = false:=by simp; omega
  have g73 : decide ((n : Int) < 73) = false:=by simp; omega
  have g83 : decide ((n : Int) < 83) = false:=by simp; omega
  have g93 : (n : Int) < 93:=by omega
  clear hs h1 h2;go_enter Tryz.func26,Tryz.ntmps26;(go_wp2_with fail);refine HC.out.mono ?_;rintro e w1 h;have h:=HO.out _ _ h;obtain ⟨b,l,j,rfl,hm,hj,hd,bb⟩:=h;(go_wp2_with fail);go_ret;exact ⟨b,l,j,rfl,hm,hj,hd,bb⟩
theorem deeds_93 (n : Nat) (h1 : 93 ≤ n) (h2 : n < 98) (g : Nat) (w : World) (hs : Sts w (.slice (some ⟨g,0,none⟩) 130 130) primL) : Calls Tryz.prog 26 #[.slice (some ⟨g,0,none⟩) 130 130,.int .i64 (n : Int)] w (DeedsOut n w):=by
  have HC:=zqh (roomDeeds_is w);have HO : Hid (∀ e w',MapOut [(⟨#[72,69,82,69]⟩,doF 93),(⟨#[65,76,76,79,84]⟩,doF 94),(⟨#[44]⟩,doF 95),(⟨#[67,44]⟩,doF 96),(⟨#[65,76,73,71,78]⟩,doF 97)] w e w' → DeedsOut n w e w'):=zqh fun e w' h => by
    have hn : n = 93 ∨ n = 94 ∨ n = 95 ∨ n = 96 ∨ n = 97:=by omega
    rcases hn with rfl | rfl | rfl | rfl | rfl
    · exact MapOut.deeds h 0 (by kernel_rfl) (by decide +kernel)
    · exact MapOut.deeds h 1 (by kernel_rfl) (by decide +kernel)
    · exact MapOut.deeds h 2 (by kernel_rfl) (by decide +kernel)
    · exact MapOut.deeds h 3 (by kernel_rfl) (by decide +kernel)
    · exact MapOut.deeds h 4 (by kernel_rfl) (by decide +kernel)
  have g39 : decide ((n : Int) < 39) = false:=by simp; omega
  have g59 : decide ((n : Int) < 59) = false:=by simp; omega
  have g73 : decide ((n : Int) < 73) = false:=by simp; omega
  have g83 : decide ((n : Int) < 83) = false:=by simp; omega
  have g93 : decide ((n : Int) < 93) = false:=by simp; omega
  have g98 : (n : Int) < 98:=by omega
  clear hs h1 h2;go_enter Tryz.func26,Tryz.ntmps26;(go_wp2_with fail);refine HC.out.mono ?_;rintro e w1 h;have h:=HO.out _ _ h;obtain ⟨b,l,j,rfl,hm,hj,hd,bb⟩:=h;(go_wp2_with fail);go_ret;exact ⟨b,l,j,rfl,hm,hj,hd,bb⟩
theorem deeds_98 (n : Nat) (h1 : 98 ≤ n) (h2 : n < 105) (g : Nat) (w : World) (hs : Sts w (.slice (some ⟨g,0,none⟩) 130 130) primL) : Calls Tryz.prog 26 #[.slice (some ⟨g,0,none⟩) 130 130,.int .i64 (n : Int)] w (DeedsOut n w):=by
  have HC:=zqh (knownDeeds_is w);have HO : Hid (∀ e w',MapOut [(⟨#[66,65,83,69]⟩,doF 98),(⟨#[83,84,65,84,69]⟩,doF 99),(⟨#[84,82,85,69]⟩,doF 100),(⟨#[70,65,76,83,69]⟩,doF 101),(⟨#[66,76]⟩,doF 102),(⟨#[68,69,67,73,77,65,76]⟩,doF 103),(⟨#[72,69,88]⟩,doF 104)] w e w' → DeedsOut n w e w'):=zqh fun e w' h => by
    have hn : n = 98 ∨ n = 99 ∨ n = 100 ∨ n = 101 ∨ n = 102 ∨ n = 103 ∨ n = 104:=by omega
    rcases hn with rfl | rfl | rfl | rfl | rfl | rfl | rfl
    · exact MapOut.deeds h 0 (by kernel_rfl) (by decide +kernel)
    · exact MapOut.deeds h 1 (by kernel_rfl) (by decide +kernel)
    · exact MapOut.deeds h 2 (by kernel_rfl) (by decide +kernel)
    · exact MapOut.deeds h 3 (by kernel_rfl) (by decide +kernel)
    · exact MapOut.deeds h 4 (by kernel_rfl) (by decide +kernel)
    · exact MapOut.deeds h 5 (by kernel_rfl) (by decide +kernel)
    · exact MapOut.deeds h 6 (by kernel_rfl) (by decide +kernel)
  have g39 : decide ((n : Int) < 39) = false:=by simp; omega
  have g59 : decide ((n : Int) < 59) = false:=by simp; omega
  have g73 : decide ((n : Int) < 73) = false:=by simp; omega
  have g83 : decide ((n : Int) < 83) = false:=by simp; omega
  have g93 : decide ((n : Int) < 93) = false:=by simp; omega
  have g98 : decide ((n : Int) < 98) = false:=by simp; omega
  have g105 : (n : Int) < 105:=by omega
  clear hs h1 h2;go_enter Tryz.func26,Tryz.ntmps26;(go_wp2_with fail);refine HC.out.mono ?_;rintro e w1 h;have h:=HO.out _ _ h;obtain ⟨b,l,j,rfl,hm,hj,hd,bb⟩:=h;(go_wp2_with fail);go_ret;exact ⟨b,l,j,rfl,hm,hj,hd,bb⟩
theorem deeds_105 (n : Nat) (h1 : 105 ≤ n) (h2 : n < 112) (g : Nat) (w : World) (hs : Sts w (.slice (some ⟨g,0,none⟩) 130 130) primL) : Calls Tryz.prog 26 #[.slice (some ⟨g,0,none⟩) 130 130,.int .i64 (n : Int)] w (DeedsOut n w):=by
  have HC:=zqh (printDeeds_is w);have HO : Hid (∀ e w',MapOut [(⟨#[69,77,73,84]⟩,doF 105),(⟨#[67,82]⟩,doF 106),(⟨#[83,80,65,67,69]⟩,doF 107),(⟨#[83,80,65,67,69,83]⟩,doF 108),(⟨#[84,89,80,69]⟩,doF 109),(⟨#[46]⟩,doF 110),(⟨#[85,46]⟩,doF 111)] w e w' → DeedsOut n w e w'):=zqh fun e w' h => by
    have hn : n = 105 ∨ n = 106 ∨ n = 107 ∨ n = 108 ∨ n = 109 ∨ n = 110 ∨ n = 111:=by omega
    rcases hn with rfl | rfl | rfl | rfl | rfl | rfl | rfl
    · exact MapOut.deeds h 0 (by kernel_rfl) (by decide +kernel)
    · exact MapOut.deeds h 1 (by kernel_rfl) (by decide +kernel)
    · exact MapOut.deeds h 2 (by kernel_rfl) (by decide +kernel)
    · exact MapOut.deeds h 3 (by kernel_rfl) (by decide +kernel)
    · exact MapOut.deeds h 4 (by kernel_rfl) (by decide +kernel)
    · exact MapOut.deeds h 5 (by kernel_rfl) (by decide +kernel)
    · exact MapOut.deeds h 6 (by kernel_rfl) (by decide +kernel)
  have g39 : decide ((n : Int) < 39) = false:=by simp; omega
  have g59 : decide ((n : Int) < 59) = false:=by simp; omega
  have g73 : decide ((n : Int) < 73) = false:=by simp; omega
  have g83 : decide ((n : Int) < 83) = false:=by simp; omega
  have g93 : decide ((n : Int) < 93) = false:=by simp; omega
  have g98 : decide ((n : Int) < 98) = false:=by simp; omega
  have g105 : decide ((n : Int) < 105) = false:=by simp; omega
  have g112 : (n : Int) < 112:=by omega
  clear hs h1 h2;go_enter Tryz.func26,Tryz.ntmps26;(go_wp2_with fail);refine HC.out.mono ?_;rintro e w1 h;have h:=HO.out _ _ h;obtain ⟨b,l,j,rfl,hm,hj,hd,bb⟩:=h;(go_wp2_with fail);go_ret;exact ⟨b,l,j,rfl,hm,hj,hd,bb⟩
theorem deeds_112 (n : Nat) (h1 : 112 ≤ n) (h2 : n < 118) (g : Nat) (w : World) (hs : Sts w (.slice (some ⟨g,0,none⟩) 130 130) primL) : Calls Tryz.prog 26 #[.slice (some ⟨g,0,none⟩) 130 130,.int .i64 (n : Int)] w (DeedsOut n w):=by
  have HC:=zqh (picDeeds_is w);have HO : Hid (∀ e w',MapOut [(⟨#[60,35]⟩,doF 112),(⟨#[35]⟩,doF 113),(⟨#[35,83]⟩,doF 114),(⟨#[72,79,76,68]⟩,doF 115),(⟨#[83,73,71,78]⟩,doF 116),(⟨#[35,62]⟩,doF 117)] w e w' → DeedsOut n w e w'):=zqh fun e w' h => by
    have hn : n = 112 ∨ n = 113 ∨ n = 114 ∨ n = 115 ∨ n = 116 ∨ n = 117:=by omega
    rcases hn with rfl | rfl | rfl | rfl | rfl | rfl
    · exact MapOut.deeds h 0 (by kernel_rfl) (by decide +kernel)
    · exact MapOut.deeds h 1 (by kernel_rfl) (by decide +kernel)
    · exact MapOut.deeds h 2 (by kernel_rfl) (by decide +kernel)
    · exact MapOut.deeds h 3 (by kernel_rfl) (by decide +kernel)
    · exact MapOut.deeds h 4 (by kernel_rfl) (by decide +kernel)
    · exact MapOut.deeds h 5 (by kernel_rfl) (by decide +kernel)
  have g39 : decide ((n : Int) < 39) = false:=by simp; omega
  have g59 : decide ((n : Int) < 59) = false:=by simp; omega
  have g73 : decide ((n : Int) < 73) = false:=by simp; omega
  have g83 : decide ((n : Int) < 83) = false:=by simp; omega
  have g93 : decide ((n : Int) < 93) = false:=by simp; omega
  have g98 : decide ((n : Int) < 98) = false:=by simp; omega
  have g105 : decide ((n : Int) < 105) = false:=by simp; omega
  have g112 : decide ((n : Int) < 112) = false:=by simp; omega
  have g118 : (n : Int) < 118:=by omega
  clear hs h1 h2;go_enter Tryz.func26,Tryz.ntmps26;(go_wp2_with fail);refine HC.out.mono ?_;rintro e w1 h;have h:=HO.out _ _ h;obtain ⟨b,l,j,rfl,hm,hj,hd,bb⟩:=h;(go_wp2_with fail);go_ret;exact ⟨b,l,j,rfl,hm,hj,hd,bb⟩
theorem deeds_118 (n : Nat) (h1 : 118 ≤ n) (h2 : n < 120) (g : Nat) (w : World) (hs : Sts w (.slice (some ⟨g,0,none⟩) 130 130) primL) : Calls Tryz.prog 26 #[.slice (some ⟨g,0,none⟩) 130 130,.int .i64 (n : Int)] w (DeedsOut n w):=by
  have HC:=zqh (wordDeeds_is w);have HO : Hid (∀ e w',MapOut [(⟨#[62,66,79,68,89]⟩,doF 118),(⟨#[65,66,79,82,84]⟩,doF 119)] w e w' → DeedsOut n w e w'):=zqh fun e w' h => by
    have hn : n = 118 ∨ n = 119:=by omega
    rcases hn with rfl | rfl
    · exact MapOut.deeds h 0 (by kernel_rfl) (by decide +kernel)
    · exact MapOut.deeds h 1 (by kernel_rfl) (by decide +kernel)
  have g39 : decide ((n : Int) < 39) = false:=by simp; omega
  have g59 : decide ((n : Int) < 59) = false:=by simp; omega
  have g73 : decide ((n : Int) < 73) = false:=by simp; omega
  have g83 : decide ((n : Int) < 83) = false:=by simp; omega
  have g93 : decide ((n : Int) < 93) = false:=by simp; omega
  have g98 : decide ((n : Int) < 98) = false:=by simp; omega
  have g105 : decide ((n : Int) < 105) = false:=by simp; omega
  have g112 : decide ((n : Int) < 112) = false:=by simp; omega
  have g118 : decide ((n : Int) < 118) = false:=by simp; omega
  have g120 : (n : Int) < 120:=by omega
  clear hs h1 h2;go_enter Tryz.func26,Tryz.ntmps26;(go_wp2_with fail);refine HC.out.mono ?_;rintro e w1 h;have h:=HO.out _ _ h;obtain ⟨b,l,j,rfl,hm,hj,hd,bb⟩:=h;(go_wp2_with fail);go_ret;exact ⟨b,l,j,rfl,hm,hj,hd,bb⟩
theorem deeds_120 (n : Nat) (h1 : 120 ≤ n) (h2 : n < 127) (g : Nat) (w : World) (hs : Sts w (.slice (some ⟨g,0,none⟩) 130 130) primL) : Calls Tryz.prog 26 #[.slice (some ⟨g,0,none⟩) 130 130,.int .i64 (n : Int)] w (DeedsOut n w):=by
  have HC:=zqh (eventDeeds_is w);have HO : Hid (∀ e w',MapOut [(⟨#[80,79,83,84]⟩,doF 120),(⟨#[65,70,84,69,82]⟩,doF 121),(⟨#[69,86,69,82,89]⟩,doF 122),(⟨#[67,65,78,67,69,76]⟩,doF 123),(⟨#[65,82,71]⟩,doF 124),(⟨#[83,69,76,70]⟩,doF 125),(⟨#[78,79,87]⟩,doF 126)] w e w' → DeedsOut n w e w'):=zqh fun e w' h => by
    have hn : n = 120 ∨ n = 121 ∨ n = 122 ∨ n = 123 ∨ n = 124 ∨ n = 125 ∨ n = 126:=by omega
    rcases hn with rfl | rfl | rfl | rfl | rfl | rfl | rfl
    · exact MapOut.deeds h 0 (by kernel_rfl) (by decide +kernel)
    · exact MapOut.deeds h 1 (by kernel_rfl) (by decide +kernel)
    · exact MapOut.deeds h 2 (by kernel_rfl) (by decide +kernel)
    · exact MapOut.deeds h 3 (by kernel_rfl) (by decide +kernel)
    · exact MapOut.deeds h 4 (by kernel_rfl) (by decide +kernel)
    · exact MapOut.deeds h 5 (by kernel_rfl) (by decide +kernel)
    · exact MapOut.deeds h 6 (by kernel_rfl) (by decide +kernel)
  have g39 : decide ((n : Int) < 39) = false:=by simp; omega
  have g59 : decide ((n : Int) < 59) = false:=by simp; omega
  have g73 : decide ((n : Int) < 73) = false:=by simp; omega
  have g83 : decide ((n : Int) < 83) = false:=by simp; omega
  have g93 : decide ((n : Int) < 93) = false:=by simp; omega
  have g98 : decide ((n : Int) < 98) = false:=by simp; omega
  have g105 : decide ((n : Int) < 105) = false:=by simp; omega
  have g112 : decide ((n : Int) < 112) = false:=by simp; omega
  have g118 : decide ((n : Int) < 118) = false:=by simp; omega
  have g120 : decide ((n : Int) < 120) = false:=by simp; omega
  have g127 : (n : Int) < 127:=by omega
  clear hs h1 h2;go_enter Tryz.func26,Tryz.ntmps26;(go_wp2_with fail);refine HC.out.mono ?_;rintro e w1 h;have h:=HO.out _ _ h;obtain ⟨b,l,j,rfl,hm,hj,hd,bb⟩:=h;(go_wp2_with fail);go_ret;exact ⟨b,l,j,rfl,hm,hj,hd,bb⟩
theorem deeds_127 (n : Nat) (h1 : 127 ≤ n) (h2 : n < 130) (g : Nat) (w : World) (hs : Sts w (.slice (some ⟨g,0,none⟩) 130 130) primL) : Calls Tryz.prog 26 #[.slice (some ⟨g,0,none⟩) 130 130,.int .i64 (n : Int)] w (DeedsOut n w):=by
  have HC:=zqh (stateDeeds_is w);have HO : Hid (∀ e w',MapOut [(⟨#[83,69,84,45,83,84,65,84,69]⟩,doF 127),(⟨#[65,84,45,83,84,65,84,69]⟩,doF 128),(⟨#[71,69,84,45,83,84,65,84,69]⟩,doF 129)] w e w' → DeedsOut n w e w'):=zqh fun e w' h => by
    have hn : n = 127 ∨ n = 128 ∨ n = 129:=by omega
    rcases hn with rfl | rfl | rfl
    · exact MapOut.deeds h 0 (by kernel_rfl) (by decide +kernel)
    · exact MapOut.deeds h 1 (by kernel_rfl) (by decide +kernel)
    · exact MapOut.deeds h 2 (by kernel_rfl) (by decide +kernel)
  have g39 : decide ((n : Int) < 39) = false:=by simp; omega
  have g59 : decide ((n : Int) < 59) = false:=by simp; omega
  have g73 : decide ((n : Int) < 73) = false:=by simp; omega
  have g83 : decide ((n : Int) < 83) = false:=by simp; omega
  have g93 : decide ((n : Int) < 93) = false:=by simp; omega
  have g98 : decide ((n : Int) < 98) = false:=by simp; omega
  have g105 : decide ((n : Int) < 105) = false:=by simp; omega
  have g112 : decide ((n : Int) < 112) = false:=by simp; omega
  have g118 : decide ((n : Int) < 118) = false:=by simp; omega
  have g120 : decide ((n : Int) < 120) = false:=by simp; omega
  have g127 : decide ((n : Int) < 127) = false:=by simp; omega
  clear hs h1 h2;go_enter Tryz.func26,Tryz.ntmps26;(go_wp2_with fail);refine HC.out.mono ?_;rintro e w1 h;have h:=HO.out _ _ h;obtain ⟨b,l,j,rfl,hm,hj,hd,bb⟩:=h;(go_wp2_with fail);go_ret;exact ⟨b,l,j,rfl,hm,hj,hd,bb⟩
theorem deeds_any (n : Nat) (h1 : 23 ≤ n) (h2 : n < 130) (g : Nat) (w : World) (hs : Sts w (.slice (some ⟨g,0,none⟩) 130 130) primL) : Calls Tryz.prog 26 #[.slice (some ⟨g,0,none⟩) 130 130,.int .i64 (n : Int)] w (DeedsOut n w):=by
  by_cases q39 : n < 39
  · exact deeds_23 n (by omega) q39 g w hs
  by_cases q59 : n < 59
  · exact deeds_39 n (by omega) q59 g w hs
  by_cases q73 : n < 73
  · exact deeds_59 n (by omega) q73 g w hs
  by_cases q83 : n < 83
  · exact deeds_73 n (by omega) q83 g w hs
  by_cases q93 : n < 93
  · exact deeds_83 n (by omega) q93 g w hs
  by_cases q98 : n < 98
  · exact deeds_93 n (by omega) q98 g w hs
  by_cases q105 : n < 105
  · exact deeds_98 n (by omega) q105 g w hs
  by_cases q112 : n < 112
  · exact deeds_105 n (by omega) q112 g w hs
  by_cases q118 : n < 118
  · exact deeds_112 n (by omega) q118 g w hs
  by_cases q120 : n < 120
  · exact deeds_118 n (by omega) q120 g w hs
  by_cases q127 : n < 127
  · exact deeds_120 n (by omega) q127 g w hs
  exact deeds_127 n (by omega) h2 g w hs
end Go.Proofs.YtlgnijhemfkflaaGreatDoor
