/- Part 36. -/
import Derived.Shelf.Strings.Repeat
import Derived.Lib.MinMax
import Derived.Test.YtcmldhjicjmmgaaGreatDoorXlBI
import Derived.Test.YtcmldhjicjmmgaaGreatDoorXlBH
set_option linter.unusedVariables false
set_option linter.unusedSimpArgs false
set_option maxRecDepth 100000
set_option maxHeartbeats 4000000

namespace Go.Proofs.YtcmldhjicjmmgaaGreatDoor
open Go.RowKit


theorem timed_is (kd : Int) (w : World) : Calls Tryz.prog 197 #[.int .i64 kd] w (Makes (deedE 4 (fun k L x => timerE k L kd (x.getD 0 0) (x.getD 1 0) (x.getD 2 0) (x.getD 3 0))) w):=by
  have hmf : ∀ (fn : Fn) (first cap : Array Value) (w : World),(Instr.makeFunc fn first cap).run Tryz.prog w = .ok (.func fn first cap) w:=fun _ _ _ _ => rfl
  go_enter Tryz.func197,Tryz.ntmps197;(go_wp2_with fail);generalize hw1 : World.alloc _ _ = w1;have kb : Below w.heap.size w w1:=by rw [← hw1]; exact al_one _ _
  have c0 : w1.cell? ⟨w.heap.size,0,none⟩ = some (.int .i64 kd):=by rw [← hw1]; simp
  have hl : w.heap.size < w1.heap.size:=by rw [← hw1]; simp
  have HA : IsAct w1 (.func (.func 258) #[] #[.pointer (some ⟨w.heap.size,0,none⟩)]) 4 (fun k L x => timerE k L kd (x.getD 0 0) (x.getD 1 0) (x.getD 2 0) (x.getD 3 0)):=⟨_,_,rfl,(enters_of Tryz.func258 (by kernel_rfl) rfl),fun w2 k L A c x b2 ok hv hx => timed1 w1 _ kd c0 hl k L A c x w2 b2 ok hv hx⟩;have B1:=zqh kb;clear c0 kb hw1;refine (taking_is 4 _ (by decide) (fun _ _ _ => by show 1 ≤ 4; decide) w1 _ HA).mono ?_;rintro e w2 ⟨d,rfl,hd,bb⟩;have B2:=zqh (below_then B1.out bb);clear B1 bb HA hl;(go_wp2_with fail);go_ret;exact ⟨d,rfl,hd,B2.out⟩
theorem eventDeeds_is (w : World) : Calls Tryz.prog 103 #[] w (MapOut [(⟨#[80,79,83,84]⟩,doF 120),(⟨#[65,70,84,69,82]⟩,doF 121),(⟨#[69,86,69,82,89]⟩,doF 122),(⟨#[67,65,78,67,69,76]⟩,doF 123),(⟨#[65,82,71]⟩,doF 124),(⟨#[83,69,76,70]⟩,doF 125),(⟨#[78,79,87]⟩,doF 126)] w):=by
  have hmm:=@run_makeMap Tryz.prog;have M0 : Hid (DMap (w.alloc (.map #[] 0)) w.heap.size []):=dmap_new w;have B0 : Hid (Below w.heap.size w (w.alloc (.map #[] 0))):=zqh (below_one _ _);go_enter Tryz.func103,Tryz.ntmps103;(go_wp2_with fail);refine (turns_is 3 (fun k L x => ⟨if hasB L (x.getD 1 0) (x.getD 2 0) = true then postC L else -259,[],k,{ L with e:=L.e ++ [⟨1,(x.getD 0 0),(x.getD 1 0),(x.getD 2 0),0,0⟩] }⟩) (by decide) _ _ ⟨_,#[],rfl,(enters_of Tryz.func196 (by kernel_rfl) rfl),fun w k L A c x _ ok hv hx => posted_any k L A c x w ok hv hx⟩).mono ?_;rintro e u0 ⟨d0,rfl,hd,bb⟩;have N0:=zqh (M0.out.keep bb);have A0:=zqh (below_then B0.out bb);have D0 : Hid (IsDeed u0 d0 (doF 120)):=zqh (hd.as fun k L => rfl);clear M0 B0 hd bb;(go_wp2_with (refine wpList_insertD rfl _ _ _ rfl w.heap.size _ ⟨#[80,79,83,84]⟩ d0 (doF 120) rfl rfl rfl N0.out D0.out (by decide) ?_; intro v0 hm hg; have M1:=zqh hm; have B1:=zqh (A0.out.grown hg A0.out.size (fun k hk => by cases hk; exact Nat.le_refl _)); clear N0 A0 D0 hm hg));refine (timed_is 2 _).mono ?_;rintro e u1 ⟨d1,rfl,hd,bb⟩;have N1:=zqh (M1.out.keep bb);have A1:=zqh (below_then B1.out bb);have D1 : Hid (IsDeed u1 d1 (doF 121)):=zqh (hd.as fun k L => rfl);clear M1 B1 hd bb;(go_wp2_with (refine wpList_insertD rfl _ _ _ rfl w.heap.size _ ⟨#[65,70,84,69,82]⟩ d1 (doF 121) rfl rfl rfl N1.out D1.out (by decide) ?_; intro v1 hm hg; have M2:=zqh hm; have B2:=zqh (A1.out.grown hg A1.out.size (fun k hk => by cases hk; exact Nat.le_refl _)); clear N1 A1 D1 hm hg))
  refine (timed_is 3 _).mono ?_;rintro e u2 ⟨d2,rfl,hd,bb⟩;have N2:=zqh (M2.out.keep bb);have A2:=zqh (below_then B2.out bb);have D2 : Hid (IsDeed u2 d2 (doF 122)):=zqh (hd.as fun k L => rfl);clear M2 B2 hd bb;(go_wp2_with (refine wpList_insertD rfl _ _ _ rfl w.heap.size _ ⟨#[69,86,69,82,89]⟩ d2 (doF 122) rfl rfl rfl N2.out D2.out (by decide) ?_; intro v2 hm hg; have M3:=zqh hm; have B3:=zqh (A2.out.grown hg A2.out.size (fun k hk => by cases hk; exact Nat.le_refl _)); clear N2 A2 D2 hm hg));refine (turns_is 1 (fun k L x => ⟨postC L,[],k,{ L with e:=L.e ++ [⟨4,0,0,0,0,(x.getD 0 0)⟩] }⟩) (by decide) _ _ ⟨_,#[],rfl,(enters_of Tryz.func198 (by kernel_rfl) rfl),fun w k L A c x _ ok hv hx => cancelled_any k L A c x w ok hv hx⟩).mono ?_;rintro e u3 ⟨d3,rfl,hd,bb⟩;have N3:=zqh (M3.out.keep bb);have A3:=zqh (below_then B3.out bb);have D3 : Hid (IsDeed u3 d3 (doF 123)):=zqh (hd.as fun k L => rfl);clear M3 B3 hd bb;(go_wp2_with (refine wpList_insertD rfl _ _ _ rfl w.heap.size _ ⟨#[67,65,78,67,69,76]⟩ d3 (doF 123) rfl rfl rfl N3.out D3.out (by decide) ?_; intro v3 hm hg; have M4:=zqh hm; have B4:=zqh (A3.out.grown hg A3.out.size (fun k hk => by cases hk; exact Nat.le_refl _)); clear N3 A3 D3 hm hg));refine (tells_is (fun k L => k.arg) _ _ ⟨_,#[],rfl,(enters_of Tryz.func199 (by kernel_rfl) rfl),fun w k L _ _ _ => arg1 k w⟩).mono ?_;rintro e u4 ⟨d4,rfl,hd,bb⟩;have N4:=zqh (M4.out.keep bb);have A4:=zqh (below_then B4.out bb);have D4 : Hid (IsDeed u4 d4 (doF 124)):=zqh (hd.as fun k L => rfl)
  clear M4 B4 hd bb;(go_wp2_with (refine wpList_insertD rfl _ _ _ rfl w.heap.size _ ⟨#[65,82,71]⟩ d4 (doF 124) rfl rfl rfl N4.out D4.out (by decide) ?_; intro v4 hm hg; have M5:=zqh hm; have B5:=zqh (A4.out.grown hg A4.out.size (fun k hk => by cases hk; exact Nat.le_refl _)); clear N4 A4 D4 hm hg));refine (tells_is (fun k L => k.self) _ _ ⟨_,#[],rfl,(enters_of Tryz.func200 (by kernel_rfl) rfl),fun w k L _ _ _ => self1 k w⟩).mono ?_;rintro e u5 ⟨d5,rfl,hd,bb⟩;have N5:=zqh (M5.out.keep bb);have A5:=zqh (below_then B5.out bb);have D5 : Hid (IsDeed u5 d5 (doF 125)):=zqh (hd.as fun k L => rfl);clear M5 B5 hd bb;(go_wp2_with (refine wpList_insertD rfl _ _ _ rfl w.heap.size _ ⟨#[83,69,76,70]⟩ d5 (doF 125) rfl rfl rfl N5.out D5.out (by decide) ?_; intro v5 hm hg; have M6:=zqh hm; have B6:=zqh (A5.out.grown hg A5.out.size (fun k hk => by cases hk; exact Nat.le_refl _)); clear N5 A5 D5 hm hg));refine (tells_is (fun k L => k.now) _ _ ⟨_,#[],rfl,(enters_of Tryz.func201 (by kernel_rfl) rfl),fun w k L _ _ _ => now1 k w⟩).mono ?_;rintro e u6 ⟨d6,rfl,hd,bb⟩;have N6:=zqh (M6.out.keep bb);have A6:=zqh (below_then B6.out bb);have D6 : Hid (IsDeed u6 d6 (doF 126)):=zqh (hd.as fun k L => rfl);clear M6 B6 hd bb;(go_wp2_with (refine wpList_insertD rfl _ _ _ rfl w.heap.size _ ⟨#[78,79,87]⟩ d6 (doF 126) rfl rfl rfl N6.out D6.out (by decide) ?_; intro v6 hm hg; have M7:=zqh hm; have B7:=zqh (A6.out.grown hg A6.out.size (fun k hk => by cases hk; exact Nat.le_refl _)); clear N6 A6 D6 hm hg))
  go_ret;exact ⟨_,rfl,M7.out,B7.out⟩


def DeedsOut (n : Nat) (w : World) (e : Ending) (w' : World) : Prop:=∃ (b : Nat) (l : DRow) (j : Nat),e = .returned (.map (some b)) ∧ DMap w' b l ∧ l[j]? = some (strB (nmP n),doF n) ∧ (l.map (·.1)).Nodup ∧ Below w.heap.size w w'
theorem MapOut.deeds {l : DRow} {w : World} {e : Ending} {w' : World} (h : MapOut l w e w') {n : Nat} (j : Nat) (hj : l[j]? = some (strB (nmP n),doF n)) (hd : (l.map (·.1)).Nodup) : DeedsOut n w e w':=by
  obtain ⟨b,e1,h1,h2⟩:=h;exact ⟨b,l,j,e1,h1,hj,hd,h2⟩
theorem lies_part {w : World} {g a b : Nat} {xs : List Value} (h : Lies w (some ⟨g,0,none⟩) xs) : Lies w (some ⟨g,a,none⟩) ((xs.take b).drop a):=by
  rcases h with h | ⟨g',o,e,hg,hc⟩
  · exact .inl (by rw [h]; simp)
  · injection e with e
    injection e with e1 e2 _
    subst e1 e2;refine .inr ⟨g,a,rfl,hg,fun j v hv => ?_⟩;have:=hc (a + j) v;rw [Nat.zero_add] at this
    apply this
    rw [List.getElem?_drop,List.getElem?_take] at hv
    split at hv
    · exact hv
    · cases hv
theorem sts_part {w : World} {g n c : Nat} {l : List (List UInt8)} (h : Sts w (.slice (some ⟨g,0,none⟩) n c) l) {a b : Nat} (hab : a ≤ b) (hb : b ≤ n) : Sts w (.slice (some ⟨g,a,none⟩) (b - a) (c - a)) ((l.take b).drop a):=by
  have hl:=h.len;have h4:=lies_part (a:=a) (b:=b) h.lies;obtain ⟨A',c',e,h1,h2,_⟩:=h;injection e with e1 e2 e3
  subst e1 e3;have e9 : ((l.take b).drop a).length = b - a:=by rw [List.length_drop,List.length_take]; omega
  refine ⟨_,_,by rw [e9],by rw [e9]; omega,by omega,?_⟩;have : (sts l).take b = sts (l.take b):=by simp [sts,List.map_take]
  rw [this] at h4;have : (sts (l.take b)).drop a = sts ((l.take b).drop a):=by simp [sts,List.map_drop]
  rwa [this] at h4
theorem strB_list (s : List UInt8) : (strB s).data.toList = s:=by simp [strB]
theorem do_shuffled (n : Nat) (h1 : 23 ≤ n) (h2 : n < 39) (k : VmK) (L : VmL) : doE (n : Int) k L = (shufE (nmP n)) k L:=by
  unfold doE;rw [if_pos (by omega),if_pos (by omega)];rw [show ((n : Int).toNat) = n from by omega]
theorem nd_shuffled : (((primL.take 39).drop 23).map strB).Nodup:=by decide +kernel
theorem at_shuffled (n : Nat) (h1 : 23 ≤ n) (h2 : n < 39) : (eachL ((primL.take 39).drop 23) (fun s => shufE s))[n - 23]? = some (strB (nmP n),doF n):=by
  have hl : primL.length = 130:=by decide +kernel
  unfold eachL;rw [List.getElem?_map,List.getElem?_drop,List.getElem?_take,if_pos (by omega),show 23 + (n - 23) = n from by omega,List.getElem?_eq_getElem (by omega)];have e : primL[n]'(by omega) = nmP n:=by unfold nmP; rw [List.getD_eq_getElem?_getD,List.getElem?_eq_getElem (by omega)]; rfl
  rw [e];show some (strB (nmP n),_) = _
  congr 2
  funext k L
  exact (do_shuffled n h1 h2 k L).symm
theorem keys_shuffled : ((eachL ((primL.take 39).drop 23) (fun s => shufE s)).map (·.1)).Nodup:=by
  have e : (eachL ((primL.take 39).drop 23) (fun s => shufE s)).map (·.1) = ((primL.take 39).drop 23).map strB:=by
    unfold eachL;rw [List.map_map];rfl
  rw [e];exact nd_shuffled
theorem do_reckonedOfTwo (n : Nat) (h1 : 39 ≤ n) (h2 : n < 59) (k : VmK) (L : VmL) : doE (n : Int) k L = (deedE 2 (fun k L x => twoE (nmP n) k L (x.getD 0 0) (x.getD 1 0))) k L:=by
  have e1 : takesF n = 2:=by unfold takesF; rw [if_pos (by omega)]
  have e2 : ∀ k L x,effF n k L x = twoE (nmP n) k L (x.getD 0 0) (x.getD 1 0):=by intro k L x; unfold effF; rw [if_pos (by omega)]
  unfold doE;rw [if_pos (by omega),if_neg (by omega)];rw [show ((n : Int).toNat) = n from by omega];rw [e1];unfold deedE;simp only [e2]
theorem nd_reckonedOfTwo : (((primL.take 59).drop 39).map strB).Nodup:=by decide +kernel
theorem at_reckonedOfTwo (n : Nat) (h1 : 39 ≤ n) (h2 : n < 59) : (eachL ((primL.take 59).drop 39) (fun s => deedE 2 (fun k L x => twoE s k L (x.getD 0 0) (x.getD 1 0))))[n - 39]? = some (strB (nmP n),doF n):=by
  have hl : primL.length = 130:=by decide +kernel
  unfold eachL;rw [List.getElem?_map,List.getElem?_drop,List.getElem?_take,if_pos (by omega),show 39 + (n - 39) = n from by omega,List.getElem?_eq_getElem (by omega)];have e : primL[n]'(by omega) = nmP n:=by unfold nmP; rw [List.getD_eq_getElem?_getD,List.getElem?_eq_getElem (by omega)]; rfl
  rw [e];show some (strB (nmP n),_) = _
  congr 2
  funext k L
  exact (do_reckonedOfTwo n h1 h2 k L).symm
theorem keys_reckonedOfTwo : ((eachL ((primL.take 59).drop 39) (fun s => deedE 2 (fun k L x => twoE s k L (x.getD 0 0) (x.getD 1 0)))).map (·.1)).Nodup:=by
  have e : (eachL ((primL.take 59).drop 39) (fun s => deedE 2 (fun k L x => twoE s k L (x.getD 0 0) (x.getD 1 0)))).map (·.1) = ((primL.take 59).drop 39).map strB:=by
    unfold eachL;rw [List.map_map];rfl
  rw [e];exact nd_reckonedOfTwo
theorem deeds_23 (n : Nat) (h1 : 23 ≤ n) (h2 : n < 39) (g : Nat) (w : World) (hs : Sts w (.slice (some ⟨g,0,none⟩) 130 130) primL) : Calls Tryz.prog 76 #[.slice (some ⟨g,0,none⟩) 130 130,.int .i64 (n : Int)] w (DeedsOut n w):=by
  have HC:=zqh (each_any _ _ _ _ 93 (enters_of Tryz.func93 (by kernel_rfl) rfl) (fun s => shufE s) w (sts_part hs (a:=23) (b:=39) (by decide) (by decide)) (by decide) nd_shuffled (fun s w => by have:=shuffled_is (strB s) w; rwa [strB_list] at this));have HM:=zqh (at_shuffled n h1 h2);have HK:=zqh keys_shuffled;have g39 : (n : Int) < 39:=by omega
  clear hs h1 h2;go_enter Tryz.func76,Tryz.ntmps76;(go_wp2_with fail);refine HC.out.mono ?_;rintro e w1 ⟨b,rfl,hm,bb⟩;(go_wp2_with fail);go_ret;exact ⟨b,_,_,rfl,hm,HM.out,HK.out,bb⟩
theorem deeds_39 (n : Nat) (h1 : 39 ≤ n) (h2 : n < 59) (g : Nat) (w : World) (hs : Sts w (.slice (some ⟨g,0,none⟩) 130 130) primL) : Calls Tryz.prog 76 #[.slice (some ⟨g,0,none⟩) 130 130,.int .i64 (n : Int)] w (DeedsOut n w):=by
  have HC:=zqh (each_any _ _ _ _ 94 (enters_of Tryz.func94 (by kernel_rfl) rfl) (fun s => deedE 2 (fun k L x => twoE s k L (x.getD 0 0) (x.getD 1 0))) w (sts_part hs (a:=39) (b:=59) (by decide) (by decide)) (by decide) nd_reckonedOfTwo (fun s w => by have:=reckonedOfTwo_is (strB s) w; rwa [strB_list] at this));have HM:=zqh (at_reckonedOfTwo n h1 h2);have HK:=zqh keys_reckonedOfTwo;have g39 : decide ((n : Int) < 39) = false:=by simp; omega
  have g59 : (n : Int) < 59:=by omega
  clear hs h1 h2;go_enter Tryz.func76,Tryz.ntmps76;(go_wp2_with fail);refine HC.out.mono ?_;rintro e w1 ⟨b,rfl,hm,bb⟩;(go_wp2_with fail);go_ret;exact ⟨b,_,_,rfl,hm,HM.out,HK.out,bb⟩
theorem deeds_83 (n : Nat) (h1 : 83 ≤ n) (h2 : n < 93) (g : Nat) (w : World) (hs : Sts w (.slice (some ⟨g,0,none⟩) 130 130) primL) : Calls Tryz.prog 76 #[.slice (some ⟨g,0,none⟩) 130 130,.int .i64 (n : Int)] w (DeedsOut n w):=by
  have HC:=zqh (cellDeeds_is w);have HO : Hid (∀ e w',MapOut [(⟨#[64]⟩,doF 83),(⟨#[33]⟩,doF 84),(⟨#[43,33]⟩,doF 85),(⟨#[67,64]⟩,doF 86),(⟨#[67,33]⟩,doF 87),(⟨#[50,64]⟩,doF 88),(⟨#[50,33]⟩,doF 89),(⟨#[70,73,76,76]⟩,doF 90),(⟨#[77,79,86,69]⟩,doF 91),(⟨#[67,79,85,78,84]⟩,doF 92)] w e w' → DeedsOut n w e w'):=zqh fun e w' h => by
    have hn : n = 83 ∨ n = 84 ∨ n = 85 ∨ n = 86 ∨ n = 87 ∨ n = 88 ∨ n = 89 ∨ n = 90 ∨ n = 91 ∨ n = 92:=by omega
    rcases hn with rfl | rfl | rfl | rfl | rfl | rfl | rfl | rfl | rfl | rfl
    · exact MapOut.deeds h 0 (by kernel_rfl) (by decide +kernel)
    · exact MapOut.deeds h 1 (by kernel_rfl) (by decide +kernel)
    · exact MapOut.deeds h 2 (by kernel_rfl) (by decide +kernel)
    · exact MapOut.deeds h 3 (by kernel_rfl) (by decide +kernel)
    · exact MapOut.deeds h 4 (by kernel_rfl) (by decide +kernel)
    · exact MapOut.deeds h 5 (by kernel_rfl) (by decide +kernel)
    · exact MapOut.deeds h 6 (by kernel_rfl) (by decide +kernel)
    · exact MapOut.deeds h 7 (by kernel_rfl) (by decide +kernel)
    · exact MapOut.deeds h 8 (by kernel_rfl) (by decide +kernel)
    · exact MapOut.deeds h 9 (by kernel_rfl) (by decide +kernel)
  have g39 : decide ((n : Int) < 39) = false:=by simp; omega
  have g59 : decide ((n : Int) < 59) = false:=by simp; omega
  have g73 : decide ((n : Int) < 73) = false:=by simp; omega
  have g83 : decide ((n : Int) < 83) = false:=by simp; omega
  have g93 : (n : Int) < 93:=by omega
  clear hs h1 h2;go_enter Tryz.func76,Tryz.ntmps76;(go_wp2_with fail);refine HC.out.mono ?_;rintro e w1 h;have h:=HO.out _ _ h;obtain ⟨b,l,j,rfl,hm,hj,hd,bb⟩:=h;(go_wp2_with fail);go_ret;exact ⟨b,l,j,rfl,hm,hj,hd,bb⟩
theorem deeds_93 (n : Nat) (h1 : 93 ≤ n) (h2 : n < 98) (g : Nat) (w : World) (hs : Sts w (.slice (some ⟨g,0,none⟩) 130 130) primL) : Calls Tryz.prog 76 #[.slice (some ⟨g,0,none⟩) 130 130,.int .i64 (n : Int)] w (DeedsOut n w):=by
  have HC:=zqh (roomDeeds_is w);have HO : Hid (∀ e w',MapOut [(⟨#[72,69,82,69]⟩,doF 93),(⟨#[65,76,76,79,84]⟩,doF 94),(⟨#[44]⟩,doF 95),(⟨#[67,44]⟩,doF 96),(⟨#[65,76,73,71,78]⟩,doF 97)] w e w' → DeedsOut n w e w'):=zqh fun e w' h => by
    have hn : n = 93 ∨ n = 94 ∨ n = 95 ∨ n = 96 ∨ n = 97:=by omega
    rcases hn with rfl | rfl | rfl | rfl | rfl
    · exact MapOut.deeds h 0 (by kernel_rfl) (by decide +kernel)
    · exact MapOut.deeds h 1 (by kernel_rfl) (by decide +kernel)
    · exact MapOut.deeds h 2 (by kernel_rfl) (by decide +kernel)
    · exact MapOut.deeds h 3 (by kernel_rfl) (by decide +kernel)
    · exact MapOut.deeds h 4 (by kernel_rfl) (by decide +kernel)
  have g39 : decide ((n : Int) < 39) = false:=by simp; omega
  have g59 : decide ((n : Int) < 59) = false:=by simp; omega
  have g73 : decide ((n : Int) < 73) = false:=by simp; omega
  have g83 : decide ((n : Int) < 83) = false:=by simp; omega
  have g93 : decide ((n : Int) < 93) = false:=by simp; omega
  have g98 : (n : Int) < 98:=by omega
  clear hs h1 h2;go_enter Tryz.func76,Tryz.ntmps76;(go_wp2_with fail);refine HC.out.mono ?_;rintro e w1 h;have h:=HO.out _ _ h;obtain ⟨b,l,j,rfl,hm,hj,hd,bb⟩:=h;(go_wp2_with fail);go_ret;exact ⟨b,l,j,rfl,hm,hj,hd,bb⟩
theorem deeds_98 (n : Nat) (h1 : 98 ≤ n) (h2 : n < 105) (g : Nat) (w : World) (hs : Sts w (.slice (some ⟨g,0,none⟩) 130 130) primL) : Calls Tryz.prog 76 #[.slice (some ⟨g,0,none⟩) 130 130,.int .i64 (n : Int)] w (DeedsOut n w):=by
  have HC:=zqh (knownDeeds_is w);have HO : Hid (∀ e w',MapOut [(⟨#[66,65,83,69]⟩,doF 98),(⟨#[83,84,65,84,69]⟩,doF 99),(⟨#[84,82,85,69]⟩,doF 100),(⟨#[70,65,76,83,69]⟩,doF 101),(⟨#[66,76]⟩,doF 102),(⟨#[68,69,67,73,77,65,76]⟩,doF 103),(⟨#[72,69,88]⟩,doF 104)] w e w' → DeedsOut n w e w'):=zqh fun e w' h => by
    have hn : n = 98 ∨ n = 99 ∨ n = 100 ∨ n = 101 ∨ n = 102 ∨ n = 103 ∨ n = 104:=by omega
    rcases hn with rfl | rfl | rfl | rfl | rfl | rfl | rfl
    · exact MapOut.deeds h 0 (by kernel_rfl) (by decide +kernel)
    · exact MapOut.deeds h 1 (by kernel_rfl) (by decide +kernel)
    · exact MapOut.deeds h 2 (by kernel_rfl) (by decide +kernel)
    · exact MapOut.deeds h 3 (by kernel_rfl) (by decide +kernel)
    · exact MapOut.deeds h 4 (by kernel_rfl) (by decide +kernel)
    · exact MapOut.deeds h 5 (by kernel_rfl) (by decide +kernel)
    · exact MapOut.deeds h 6 (by kernel_rfl) (by decide +kernel)
  have g39 : decide ((n : Int) < 39) = false:=by simp; omega
  have g59 : decide ((n : Int) < 59) = false:=by simp; omega
  have g73 : decide ((n : Int) < 73) = false:=by simp; omega
  have g83 : decide ((n : Int) < 83) = false:=by simp; omega
  have g93 : decide ((n : Int) < 93) = false:=by simp; omega
  have g98 : decide ((n : Int) < 98) = false:=by simp; omega
  have g105 : (n : Int) < 105:=by omega
  clear hs h1 h2;go_enter Tryz.func76,Tryz.ntmps76;(go_wp2_with fail);refine HC.out.mono ?_;rintro e w1 h;have h:=HO.out _ _ h;obtain ⟨b,l,j,rfl,hm,hj,hd,bb⟩:=h;(go_wp2_with fail);go_ret;exact ⟨b,l,j,rfl,hm,hj,hd,bb⟩
theorem deeds_120 (n : Nat) (h1 : 120 ≤ n) (h2 : n < 127) (g : Nat) (w : World) (hs : Sts w (.slice (some ⟨g,0,none⟩) 130 130) primL) : Calls Tryz.prog 76 #[.slice (some ⟨g,0,none⟩) 130 130,.int .i64 (n : Int)] w (DeedsOut n w):=by
  have HC:=zqh (eventDeeds_is w);have HO : Hid (∀ e w',MapOut [(⟨#[80,79,83,84]⟩,doF 120),(⟨#[65,70,84,69,82]⟩,doF 121),(⟨#[69,86,69,82,89]⟩,doF 122),(⟨#[67,65,78,67,69,76]⟩,doF 123),(⟨#[65,82,71]⟩,doF 124),(⟨#[83,69,76,70]⟩,doF 125),(⟨#[78,79,87]⟩,doF 126)] w e w' → DeedsOut n w e w'):=zqh fun e w' h => by
    have hn : n = 120 ∨ n = 121 ∨ n = 122 ∨ n = 123 ∨ n = 124 ∨ n = 125 ∨ n = 126:=by omega
    rcases hn with rfl | rfl | rfl | rfl | rfl | rfl | rfl
    · exact MapOut.deeds h 0 (by kernel_rfl) (by decide +kernel)
    · exact MapOut.deeds h 1 (by kernel_rfl) (by decide +kernel)
    · exact MapOut.deeds h 2 (by kernel_rfl) (by decide +kernel)
    · exact MapOut.deeds h 3 (by kernel_rfl) (by decide +kernel)
    · exact MapOut.deeds h 4 (by kernel_rfl) (by decide +kernel)
    · exact MapOut.deeds h 5 (by kernel_rfl) (by decide +kernel)
    · exact MapOut.deeds h 6 (by kernel_rfl) (by decide +kernel)
  have g39 : decide ((n : Int) < 39) = false:=by simp; omega
  have g59 : decide ((n : Int) < 59) = false:=by simp; omega
  have g73 : decide ((n : Int) < 73) = false:=by simp; omega
  have g83 : decide ((n : Int) < 83) = false:=by simp; omega
  have g93 : decide ((n : Int) < 93) = false:=by simp; omega
  have g98 : decide ((n : Int) < 98) = false:=by simp; omega
  have g105 : decide ((n : Int) < 105) = false:=by simp; omega
  have g112 : decide ((n : Int) < 112) = false:=by simp; omega
  have g118 : decide ((n : Int) < 118) = false:=by simp; omega
  have g120 : decide ((n : Int) < 120) = false:=by simp; omega
  have g127 : (n : Int) < 127:=by omega
  clear hs h1 h2;go_enter Tryz.func76,Tryz.ntmps76;(go_wp2_with fail);refine HC.out.mono ?_;rintro e w1 h;have h:=HO.out _ _ h;obtain ⟨b,l,j,rfl,hm,hj,hd,bb⟩:=h;(go_wp2_with fail);go_ret;exact ⟨b,l,j,rfl,hm,hj,hd,bb⟩


theorem does_anyI (n : Int) (w : World) : Calls Tryz.prog 60 #[.int .i64 n] w fun e w' => e = .returned (.bool (decide (23 ≤ n ∧ n ≤ 129))) ∧ w = w':=by
  by_cases h1 : 23 ≤ n
  · by_cases h2 : n < 130
    · have H:=zqh (decide_eq_true (show 23 ≤ n ∧ n ≤ 129 from ⟨h1,by omega⟩))
      rw [H.out];go_enter Tryz.func60,Tryz.ntmps60;go_wp2;go_ret;exact ⟨rfl,rfl⟩
    · have H:=zqh (decide_eq_false (show ¬ (23 ≤ n ∧ n ≤ 129) from fun h => by omega))
      have g2 : decide (n < 130) = false:=by simp; omega
      rw [H.out];clear h2;go_enter Tryz.func60,Tryz.ntmps60;go_wp2;go_ret;exact ⟨rfl,rfl⟩
  · have H:=zqh (decide_eq_false (show ¬ (23 ≤ n ∧ n ≤ 129) from fun h => by omega))
    have g1 : decide (23 ≤ n) = false:=by simp; omega
    rw [H.out];clear h1;go_enter Tryz.func60,Tryz.ntmps60;go_wp2;go_ret;exact ⟨rfl,rfl⟩
theorem nodup_firstI {l : DRow} (h : (l.map (·.1)).Nodup) {j : Nat} {k : ByteArray} {F : VmK → VmL → Eff} (hj : l[j]? = some (k,F)) : ∀ (a : Nat),a < j → ∀ x,l[a]? = some x → x.1 ≠ k:=by
  intro a ha x hx e;obtain ⟨h1,e1⟩:=List.getElem?_eq_some_iff.1 hj;obtain ⟨h2,e2⟩:=List.getElem?_eq_some_iff.1 hx;rw [List.Nodup,List.pairwise_iff_getElem] at h;have:=h a j (by simpa using h2) (by simpa using h1) ha;simp [e1,e2] at this;exact this e
theorem nmP_atI (m : Nat) (h : m < 130) : primL[m]? = some (nmP m):=by
  have hl : primL.length = 130:=by decide +kernel
  unfold nmP;rw [List.getD_eq_getElem?_getD,List.getElem?_eq_getElem (by omega)];rfl
theorem sts_rowI {w : World} {g b n c : Nat} {l : List (List UInt8)} (h : Sts w (.slice (some ⟨g,0,none⟩) n c) l) (hne : g ≠ b) (cs : Array Value) : Sts (w.setRow b cs) (.slice (some ⟨g,0,none⟩) n c) l:=by
  obtain ⟨A',c',e,h1,h2,h4⟩:=h;refine ⟨A',c',e,h1,h2,?_⟩;injection e with e1 e2 e3
  subst e1
  rcases h4 with h4 | ⟨g',o,e,hg,hc⟩
  · exact .inl h4
  · injection e with e
    injection e with ea eo _
    subst ea eo;refine .inr ⟨g,0,rfl,by rw [size_setRow]; exact hg,fun j v hv => ?_⟩;have:=hc j v hv;unfold World.cell? at this ⊢;rw [show (w.setRow b cs).heap[(⟨g,0 + j,none⟩ : Addr).block]? = w.heap[(⟨g,0 + j,none⟩ : Addr).block]? from setRow_other w b g cs (by omega)];exact this
theorem sts_isI {w : World} {b n c : Nat} {l : List (List UInt8)} (h : Sts w (.slice (some ⟨b,0,none⟩) n c) l) {i : Nat} {s : List UInt8} (hs : l[i]? = some s) : w.cell? ⟨b,i,none⟩ = some (.string (strB s)):=by
  obtain ⟨hi,hv⟩:=List.getElem?_eq_some_iff.1 hs;obtain ⟨g,o,e,hc⟩:=sts_cell h hi;injection e with e
  injection e with e1 e2 _
  subst e1 e2;rw [hv,Nat.zero_add] at hc;exact hc
theorem do_at (m : Nat) (hm0 : 23 ≤ m) (hm2 : m < 130) (HD9 : ∀ (g : Nat) (w : World),Sts w (.slice (some ⟨g,0,none⟩) 130 130) primL → Calls Tryz.prog 76 #[.slice (some ⟨g,0,none⟩) 130 130,.int .i64 (m : Int)] w (DeedsOut m w)) (k : VmK) (L : VmL) (w : World) (HT : Tab w) (ok : Ok k L) (h : IsVm w k L) : Calls Tryz.prog 61 #[vmV k,.int .i64 (m : Int)] w (DeedOut (doE (m : Int) k L) k w):=by
  have V0:=zqh h;have T0:=zqh HT;have ok9:=zqh ok;have hn : 23 ≤ (m : Int) ∧ (m : Int) ≤ 129:=by omega
  have HQ:=zqh fun w => does_anyI (m : Int) w
  rw [decide_eq_true hn] at HQ;have HM:=zqh (And.intro hm0 hm2);have HN : Hid (primL[m]? = some (nmP m)):=zqh (nmP_atI m (by omega));have hm1 : (m : Int) < 130:=by omega
  clear h HT ok hn hm0 hm2;go_enter Tryz.func61,Tryz.ntmps61;go_upto_region 1 with fail
  generalize hw1 : World.alloc (World.alloc _ _) _ = w1;have kb : Below w.heap.size w w1:=by rw [← hw1]; exact al_two _ _ _
  have kx : VBox w1 w.heap.size k:=by rw [← hw1]; exact (in_two w k _).2
  have kz : VBox w1 (w.heap.size + 1) vm0:=by rw [← hw1]; exact in_two0 w _
  have KS : Hid (w1.heap.size = w.heap.size + 1 + 1):=by show _ = _; rw [← hw1]; exact in_twos w _ _
  clear hw1;have X1:=zqh kx;have Z1:=zqh kz;have B1:=zqh kb;clear kx kz kb;(go_wp2_with fail);refine (HQ.out _).mono ?_;rintro e w9 ⟨rfl,rfl⟩;clear HQ;(go_wp2_with fail);refine (names_any _ (T0.out.keep B1.out)).mono ?_;rintro e w2 ⟨rfl,hs,bb⟩;have X2:=zqh (X1.out.keep bb);have Z2:=zqh (Z1.out.keep bb);have B2:=zqh (below_then B1.out bb);have S2:=zqh hs;have HC:=zqh fun w hs => HD9 w1.heap.size w hs
  clear X1 Z1 B1 bb hs T0;go_upto_region 4 with fail
  refine wp_region_noPanic ?_;refine wp_region_held_drew (S:=fun a9 => Below w.heap.size w a9 ∧ VBox a9 w.heap.size k ∧ (∃ j0,VBox a9 (w.heap.size + 1) j0) ∧ Sts a9 (.slice (some ⟨w1.heap.size,0,none⟩) 130 130) primL) (by kernel_rfl) ?_ (fun hHeld => ?_)
  · exact ⟨B2.out.drew,X2.out,⟨_,Z2.out⟩,S2.out⟩
  refine zqa 0 ?_;refine zqa 1 ?_;refine zqa 3 ?_;refine zqa 4 ?_;refine zqa 5 ?_;refine zqf 6 (fun u hSu => sts_isI hSu.2.2.2 HN.out) ?_;refine zqt (i:=8) (v:=vmV k) (fun u hSu => exec_vl _ rfl w.heap.size k rfl hSu.2.1) ?_;(try simp only [zq,Act.put]);refine zqr 2 fun K hK => ?_
  go_simp;refine (HC.out _ hHeld.2.2.2).mono ?_;rintro e u1 ⟨b,l,j9,rfl,hm,hj,hd,bb⟩;obtain ⟨j0,hz⟩:=hHeld.2.2.1;have hN : Below w.heap.size w u1 ∧ VBox u1 w.heap.size k ∧ (∃ j0,VBox u1 (w.heap.size + 1) j0) ∧ Sts u1 (.slice (some ⟨w1.heap.size,0,none⟩) 130 130) primL:=⟨below_then hHeld.1 bb,hHeld.2.1.keep bb,⟨j0,hz.keep bb⟩,hHeld.2.2.2.keep bb⟩;obtain ⟨v9,hv9,hi9⟩:=run_lookD hm (strB (nmP m)) (doF m) j9 hj (nodup_firstI hd hj);(go_wp2_with fail);clear bb hz hm hj hd;clear hHeld;refine hK.out _ _ hN (fun hHeld => ?_);clear hK K hN;(try simp only [zq,Act.put]);refine zqr 7 fun K hK => ?_
  go_simp;have hN:=hHeld;clear hv9;clear hHeld;refine hK.out _ _ hN (fun hHeld => ?_);clear hK K hN;(try simp only [zq,Act.put]);refine zqr 9 fun K hK => ?_
  obtain ⟨g9,cs9,rfl,eg9,hc9⟩:=hi9;have HD:=zqh (hc9 u1 k L (kp_of (Below.refl _ _)) ok9.out (V0.out.keep hHeld.1));have HB9:=zqh hHeld.1.size;clear hc9;go_simp;refine HD.out.mono ?_;rintro e u2 ⟨j,rfl,hv,hs,hl,bb⟩;obtain ⟨j0,hz⟩:=hHeld.2.2.1;have hN : Below w.heap.size w u2 ∧ VBox u2 w.heap.size k ∧ (∃ j0,VBox u2 (w.heap.size + 1) j0) ∧ Sts u2 (.slice (some ⟨w1.heap.size,0,none⟩) 130 130) primL:=⟨below_then hHeld.1 bb,hHeld.2.1.keep bb,⟨j0,hz.keep bb⟩,hHeld.2.2.2.keep bb⟩;have HZ:=zqh hz.lt;have HV:=zqh hv;have HS:=zqh hs;have HL:=zqh hl;have HZ0:=zqh (hz.keep bb);(go_wp2_with fail);clear bb hz hv hs hl;clear hHeld;refine hK.out _ _ hN (fun hHeld => ?_);clear hK K hN;(try simp only [zq,Act.put]);refine zqa 10 ?_;refine zqa 11 ?_;refine zqr 12 fun K hK => ?_
  obtain ⟨j7,hz⟩:=hHeld.2.2.1;refine step_vst rfl _ _ rfl (w.heap.size + 1) j7 j rfl rfl hz ?_;have kb2:=below_setRow hHeld.1 (show w.heap.size ≤ w.heap.size + 1 by omega) (vmC j);have hr2:=vrow hz j;refine hK.out _ _ ⟨kb2,vrow_fr hHeld.2.1 (by omega) _,⟨j,hr2⟩,sts_rowI hHeld.2.2.2 (by have:=KS.out; omega) _⟩ (fun hHeld2 => ?_);clear hK K;(try simp only [zq,Act.put]);refine zqa 13 ?_;refine wpAnyH_done (by kernel_rfl) ?_ _;refine NoPanic.normal ?_;(go_wp2_with fail);refine bodyPost_ret (res_ct rfl _ _ _ _ rfl hr2) rfl ⟨j,rfl,?_,HS.out,HL.out.le HB9.out,kb2⟩;refine V0.out.ex (X:=fun g => g = w.heap.size + 1) HV.out HL.out (Ex.row (X:=fun g => g = w.heap.size + 1) (b:=w.heap.size + 1) (Ex.refl _ _) rfl _) fun g hg e => ?_
  subst e;exact ⟨by omega,HZ.out,vbox_nou8 HZ0.out⟩


def ScE (E F : Eff) : Prop:=E.c = F.c ∧ E.o = F.o ∧ E.L = F.L ∧ Sc E.K F.K
theorem eff_sc {j k : VmK} (h : Sc j k) (n : Nat) (L : VmL) (x : List Int) (h1 : n < 130) : ScE (effF n j L x) (effF n k L x):=by
  have hh:=h;obtain ⟨jcm,jcd,jcr,jcw,jco,jmA,jmn,jmc,jpA,jpn,jpc,jhere,jdA,jdn,jdc,jrA,jrn,jrc,jfA,jfn,jfc,jwA,jwn,jwc,jlast,joA,jon,joc,jqA,jqn,jqc,jqo,jeA,jen,jec,jfree,jnext,jarg,jself,jnow,jhA,jhn,jhc⟩:=j;obtain ⟨a1,a2,a3,a4,a5,a6,a7,a8,a9,a10,a11,a12,a13⟩:=h;simp only at a1 a2 a3 a4 a5 a6 a7 a8 a9 a10 a11 a12 a13;subst a1 a2 a3 a4 a5 a6 a7 a8 a9 a10 a11 a12 a13;unfold effF
  by_cases q1 : n < 59
  · rw [if_pos q1,if_pos q1]; exact ⟨rfl,rfl,rfl,hh⟩
  · rw [if_neg q1,if_neg q1]
    by_cases q2 : n < 73
    · rw [if_pos q2,if_pos q2]; exact ⟨rfl,rfl,rfl,hh⟩
    · rw [if_neg q2,if_neg q2]
      have hn : n = 73 ∨ n = 74 ∨ n = 75 ∨ n = 76 ∨ n = 77 ∨ n = 78 ∨ n = 79 ∨ n = 80 ∨ n = 81 ∨ n = 82 ∨ n = 83 ∨ n = 84 ∨ n = 85 ∨ n = 86 ∨ n = 87 ∨ n = 88 ∨ n = 89 ∨ n = 90 ∨ n = 91 ∨ n = 92 ∨ n = 93 ∨ n = 94 ∨ n = 95 ∨ n = 96 ∨ n = 97 ∨ n = 98 ∨ n = 99 ∨ n = 100 ∨ n = 101 ∨ n = 102 ∨ n = 103 ∨ n = 104 ∨ n = 105 ∨ n = 106 ∨ n = 107 ∨ n = 108 ∨ n = 109 ∨ n = 110 ∨ n = 111 ∨ n = 112 ∨ n = 113 ∨ n = 114 ∨ n = 115 ∨ n = 116 ∨ n = 117 ∨ n = 118 ∨ n = 119 ∨ n = 120 ∨ n = 121 ∨ n = 122 ∨ n = 123 ∨ n = 124 ∨ n = 125 ∨ n = 126 ∨ n = 127 ∨ n = 128 ∨ n = 129:=by omega
      rcases hn with rfl | rfl | rfl | rfl | rfl | rfl | rfl | rfl | rfl | rfl | rfl | rfl | rfl | rfl | rfl | rfl | rfl | rfl | rfl | rfl | rfl | rfl | rfl | rfl | rfl | rfl | rfl | rfl | rfl | rfl | rfl | rfl | rfl | rfl | rfl | rfl | rfl | rfl | rfl | rfl | rfl | rfl | rfl | rfl | rfl | rfl | rfl | rfl | rfl | rfl | rfl | rfl | rfl | rfl | rfl | rfl | rfl <;> exact ⟨rfl,rfl,rfl,⟨rfl,rfl,rfl,rfl,rfl,rfl,rfl,rfl,rfl,rfl,rfl,rfl,rfl⟩⟩
theorem deedE_sc {j k : VmK} (h : Sc j k) (t : Nat) (f : VmK → VmL → List Int → Eff) (L : VmL) (hf : ∀ x,ScE (f j L x) (f k L x)) : ScE (deedE t f j L) (deedE t f k L):=by
  obtain ⟨e1,e2,e3,e4⟩:=hf (L.d.drop (L.d.length - t));unfold deedE;rw [e1,e2,e3,h.cd]
  by_cases c1 : L.d.length < t
  · rw [if_pos c1,if_pos c1]; exact ⟨rfl,rfl,rfl,h⟩
  · rw [if_neg c1,if_neg c1]
    by_cases c2 : (f k L (L.d.drop (L.d.length - t))).c = 0
    · rw [if_pos c2,if_pos c2]
      by_cases c3 : k.cd < ((L.d.length - t + (f k L (L.d.drop (L.d.length - t))).o.length : Nat) : Int)
      · rw [if_pos c3,if_pos c3]; exact ⟨rfl,rfl,rfl,h⟩
      · rw [if_neg c3,if_neg c3]; exact ⟨rfl,rfl,rfl,e4⟩
    · rw [if_neg c2,if_neg c2]; exact ⟨rfl,rfl,rfl,h⟩
theorem doE_sc {j k : VmK} (h : Sc j k) (n : Int) (L : VmL) : ScE (doE n j L) (doE n k L):=by
  unfold doE
  by_cases c1 : 23 ≤ n ∧ n ≤ 129
  · rw [if_pos c1,if_pos c1]
    by_cases c2 : n ≤ 38
    · rw [if_pos c2,if_pos c2]
      unfold shufE;rw [h.cd];exact ⟨rfl,rfl,rfl,h⟩
    · rw [if_neg c2,if_neg c2]
      exact deedE_sc h _ _ L fun x => eff_sc h _ L x (by omega)
  · rw [if_neg c1,if_neg c1]; exact ⟨rfl,rfl,rfl,h⟩
theorem MLoc.trans {B : Nat} {i j k : VmK} (h : MLoc B i j) (g : MLoc B j k) : MLoc B i k:=⟨h.p.trans g.p,h.d.trans g.d,h.e.trans g.e,⟨h.r.1.trans g.r.1,h.r.2.trans g.r.2⟩,⟨h.f.1.trans g.f.1,h.f.2.trans g.f.2⟩,⟨h.w.1.trans g.w.1,h.w.2.trans g.w.2⟩,⟨h.h.1.trans g.h.1,h.h.2.trans g.h.2⟩⟩
theorem Ok.sc {j k : VmK} {L : VmL} (s : Sc j k) (h : Ok k L) : Ok j L:=⟨h.m1,h.m2,h.m3,h.d1,h.dr,h.o1,h.q1,h.e1,h.h1,by rw [s.co]; exact h.co0,by rw [s.co]; exact h.co1,by rw [s.cd]; exact h.cd0,by rw [s.cd]; exact h.cd1,by rw [s.here]; exact h.hr0,by rw [s.here]; exact h.hr1,by rw [s.cm]; exact h.cm⟩
end Go.Proofs.YtcmldhjicjmmgaaGreatDoor
