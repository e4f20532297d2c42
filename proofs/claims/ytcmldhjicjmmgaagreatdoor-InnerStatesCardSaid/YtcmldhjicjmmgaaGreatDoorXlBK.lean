/- Part 37. -/
import Derived.Test.YtcmldhjicjmmgaaGreatDoorXlBJ
set_option linter.unusedVariables false
set_option linter.unusedSimpArgs false
set_option maxRecDepth 100000
set_option maxHeartbeats 4000000

namespace Go.Proofs.YtcmldhjicjmmgaaGreatDoor
open Go.RowKit


theorem pgo_of {m : Nat} (h1 : 23 ≤ m) (h2 : m < 130) (HD : ∀ (g : Nat) (w : World),Sts w (.slice (some ⟨g,0,none⟩) 130 130) primL → Calls Tryz.prog 76 #[.slice (some ⟨g,0,none⟩) 130 130,.int .i64 (m : Int)] w (DeedsOut m w))
    {K K' : VmK} {L L' : VmL} (ok : Ok K L) (hc : (doE (m : Int) K L).c = 0) (hl : (doE (m : Int) K L).L = L') (hk : Sc (doE (m : Int) K L).K K') : PGo (m : Int) K L K' L':=by
  intro j w s ht hv;refine (do_at m h1 h2 HD j L w ht (ok.sc s) hv).mono ?_;rintro e w1 ⟨i,rfl,hi,hs,hl2,bb⟩;obtain ⟨s1,s2,s3,s4⟩:=doE_sc s (m : Int) L;refine ⟨i,by rw [s1,hc],?_,(hs.trans s4).trans hk,.of hl2,bb⟩;rw [s3,hl] at hi;exact hi
theorem shuf_go {m : Nat} (h1 : 23 ≤ m) (h2 : m < 39) {K K' : VmK} {L L' : VmL} (ok : Ok K L) (hc : (doE (m : Int) K L).c = 0) (hl : (doE (m : Int) K L).L = L') (hk : Sc (doE (m : Int) K L).K K') : PGo (m : Int) K L K' L' :=
  pgo_of h1 (by omega) (fun g w hs => deeds_23 m h1 h2 g w hs) ok hc hl hk
theorem two_go {m : Nat} (h1 : 39 ≤ m) (h2 : m < 59) {K K' : VmK} {L L' : VmL} (ok : Ok K L) (hc : (doE (m : Int) K L).c = 0) (hl : (doE (m : Int) K L).L = L') (hk : Sc (doE (m : Int) K L).K K') : PGo (m : Int) K L K' L' :=
  pgo_of (by omega) (by omega) (fun g w hs => deeds_39 m h1 h2 g w hs) ok hc hl hk
structure MemOk (M : PM) : Prop where
  l : M.1.length = 2048
  p : M.2.length ≤ 900
theorem ok_fre {M : PM} (h : MemOk M) {d r : List Int} (hd : d.length ≤ 400) (hc : ∀ x ∈ d,cellR x) : Ok freK (stL9 M d r) :=
  ⟨by show 2048 ≤ M.1.length; rw [h.l]; decide,by show M.1.length ≤ _; rw [h.l]; decide,h.p,hd,hc,Nat.zero_le _,Nat.zero_le _,Nat.zero_le _,Nat.zero_le _,by decide,by decide,by decide,by decide,by decide,by show (1368 : Int) ≤ (M.1.length : Int); rw [h.l]; decide,by show (2048 : Int) = _; rw [h.l]; rfl⟩
theorem p_dup {M : PM} (h : MemOk M) {r : List Int} {l : List Int} {x : Int} (hl : l.length ≤ 30) (hc : ∀ y ∈ l ++ [x],cellR y) : PGo 23 freK (stL9 M (l ++ [x]) r) freK (stL9 M (l ++ [x,x]) r):=by
  have e : doE 23 freK (stL9 M (l ++ [x]) r) = ⟨0,[],freK,stL9 M (l ++ [x,x]) r⟩:=by
    show shufE (nmP 23) freK (stL9 M (l ++ [x]) r) = _;rw [show nmP 23 = [68,85,80] from by decide +kernel];have hr : resF (kindF [68,85,80]) (l ++ [x]) = .out (l ++ [x,x]):=by
      show (if (l ++ [x]).length < 1 then Res.under else .out (leftL (l ++ [x]) ((l ++ [x]).length - 1) [0,0])) = _;rw [if_neg (by simp)];simp [leftL]
    unfold shufE;rw [show (stL9 M (l ++ [x]) r).d = l ++ [x] from rfl,hr];show (⟨if (32 : Int) < _ then -3 else 0,[],freK,{ stL9 M (l ++ [x]) r with d:=if (32 : Int) < _ then _ else _ }⟩ : Eff) = _;rw [if_neg (by simp; omega),if_neg (by simp; omega)]
  exact shuf_go (m:=23) (by omega) (by omega) (ok_fre h (by simp; omega) hc) (by rw [show ((23 : Nat) : Int) = 23 from rfl,e]) (by rw [show ((23 : Nat) : Int) = 23 from rfl,e]) (by rw [show ((23 : Nat) : Int) = 23 from rfl,e]; exact Sc.refl _)
theorem p_five {M : PM} (h : MemOk M) {r : List Int} : PGo 41 freK (stL9 M [5,5] r) freK (stL9 M [25] r) :=
  two_go (m:=41) (by omega) (by omega) (ok_fre h (by decide) (by intro x hx; simp at hx; unfold cellR; omega)) (by kernel_rfl) (by kernel_rfl) (by exact Sc.refl _)


def M5 : PM:=laidM B0 1368 [40,5,216,360,32]
theorem m5n : NewM M5:=new_b0.laid (by decide) (by decide) (by decide)
theorem m5f : fetchF M5 1368 = 256:=new_b0.first (by decide) (by decide) (by decide)
theorem m5c0 : fetchF M5 1376 = 40:=new_b0.cell (p:=1368) (l:=[40,5,216,360,32]) 0 (by decide) (by decide) (by decide) rfl (by unfold cellR; decide)
theorem m5w0 : WordAt M5 1376 40 1:=m5n.word 1 (by decide) (by decide) (by decide) (by decide) m5c0
theorem m5c1 : fetchF M5 1384 = 5:=new_b0.cell (p:=1368) (l:=[40,5,216,360,32]) 1 (by decide) (by decide) (by decide) rfl (by unfold cellR; decide)
theorem m5c2 : fetchF M5 1392 = 216:=new_b0.cell (p:=1368) (l:=[40,5,216,360,32]) 2 (by decide) (by decide) (by decide) rfl (by unfold cellR; decide)
theorem m5w2 : WordAt M5 1392 216 23:=m5n.word 23 (by decide) (by decide) (by decide) (by decide) m5c2
theorem m5c3 : fetchF M5 1400 = 360:=new_b0.cell (p:=1368) (l:=[40,5,216,360,32]) 3 (by decide) (by decide) (by decide) rfl (by unfold cellR; decide)
theorem m5w3 : WordAt M5 1400 360 41:=m5n.word 41 (by decide) (by decide) (by decide) (by decide) m5c3
theorem m5c4 : fetchF M5 1408 = 32:=new_b0.cell (p:=1368) (l:=[40,5,216,360,32]) 4 (by decide) (by decide) (by decide) rfl (by unfold cellR; decide)
theorem m5w4 : WordAt M5 1408 32 0:=m5n.word 0 (by decide) (by decide) (by decide) (by decide) m5c4
theorem runs_ten (a : Addr) : Runs 6 (stW a M5 [] [] 16 1368 10) (st a M5 [25] [] 24 4) 0:=by
  have s0 : StepTo (stW a M5 [] [] 16 1368 10) (st a M5 [] [16] 1376 9) false 0:=by
    have h:=w_col (R:=[]) (D:=[]) (ip:=16) (x:=1368) (fu:=10) a m5n.l (by decide) (by decide) (by decide) m5f ⟨by decide,by decide⟩ (by decide);rw [show wrap64 (1368 + 8) = 1376 from by decide +kernel] at h;exact h
  have s1 : StepTo (st a M5 [] [16] 1376 9) (st a M5 [5] [16] 1392 8) false 0:=by
    have h:=s_lit (D:=[]) (R:=[16]) (fu:=9) a m5w0 ⟨by decide,by decide⟩ m5c1 (by decide);exact h
  have s2 : StepTo (st a M5 [5] [16] 1392 8) (st a M5 [5,5] [16] 1400 7) false 0:=by
    have h:=s_prim (fu:=8) a m5w2 ⟨by decide,by decide⟩ (by decide) (p_dup (l:=[]) (x:=5) (r:=[16]) ⟨m5n.l,m5n.p⟩ (by decide) (by intro y hy; simp at hy; unfold cellR; omega));exact h
  have s3 : StepTo (st a M5 [5,5] [16] 1400 7) (st a M5 [25] [16] 1408 6) false 0:=by
    have h:=s_prim (fu:=7) a m5w3 ⟨by decide,by decide⟩ (by decide) (p_five ⟨m5n.l,m5n.p⟩ (r:=[16]));exact h
  have s4 : StepTo (st a M5 [25] [16] 1408 6) (st a M5 [25] [] 16 5) false 0:=by
    have h:=s_exit (D:=[25]) (R:=[]) (q:=16) (fu:=6) a m5w4 ⟨by decide,by decide⟩ (by decide);exact h
  have s5 : StepTo (st a M5 [25] [] 16 5) (st a M5 [25] [] 24 4) true 0:=by
    have h:=s_halt (D:=[25]) (R:=[]) (fu:=5) a m5n.halts ⟨by decide,by decide⟩;exact h
  exact .more s0 rfl (.more s1 rfl (.more s2 rfl (.more s3 rfl (.more s4 rfl (.last s5 (.inl rfl))))))
theorem runs_five (a : Addr) : Runs 6 (stW a M5 [] [] 16 1368 5) (st a M5 [25] [] 16 0) (-256):=by
  have s0 : StepTo (stW a M5 [] [] 16 1368 5) (st a M5 [] [16] 1376 4) false 0:=by
    have h:=w_col (R:=[]) (D:=[]) (ip:=16) (x:=1368) (fu:=5) a m5n.l (by decide) (by decide) (by decide) m5f ⟨by decide,by decide⟩ (by decide);rw [show wrap64 (1368 + 8) = 1376 from by decide +kernel] at h;exact h
  have s1 : StepTo (st a M5 [] [16] 1376 4) (st a M5 [5] [16] 1392 3) false 0:=by
    have h:=s_lit (D:=[]) (R:=[16]) (fu:=4) a m5w0 ⟨by decide,by decide⟩ m5c1 (by decide);exact h
  have s2 : StepTo (st a M5 [5] [16] 1392 3) (st a M5 [5,5] [16] 1400 2) false 0:=by
    have h:=s_prim (fu:=3) a m5w2 ⟨by decide,by decide⟩ (by decide) (p_dup (l:=[]) (x:=5) (r:=[16]) ⟨m5n.l,m5n.p⟩ (by decide) (by intro y hy; simp at hy; unfold cellR; omega));exact h
  have s3 : StepTo (st a M5 [5,5] [16] 1400 2) (st a M5 [25] [16] 1408 1) false 0:=by
    have h:=s_prim (fu:=2) a m5w3 ⟨by decide,by decide⟩ (by decide) (p_five ⟨m5n.l,m5n.p⟩ (r:=[16]));exact h
  have s4 : StepTo (st a M5 [25] [16] 1408 1) (st a M5 [25] [] 16 0) false 0:=by
    have h:=s_exit (D:=[25]) (R:=[]) (q:=16) (fu:=1) a m5w4 ⟨by decide,by decide⟩ (by decide);exact h
  have s5 : StepTo (st a M5 [25] [] 16 0) (st a M5 [25] [] 16 0) false (-256):=step_fuel (show (0 : Int) < 1 by decide);exact .more s0 rfl (.more s1 rfl (.more s2 rfl (.more s3 rfl (.more s4 rfl (.last s5 (.inr (by decide)))))))
theorem step_three (a : Addr) : StepTo (stW a M5 [] [] 16 1368 3) (st a M5 [] [16] 1376 2) false 0:=by
  have h:=w_col (R:=[]) (D:=[]) (ip:=16) (x:=1368) (fu:=3) a m5n.l (by decide) (by decide) (by decide) m5f ⟨by decide,by decide⟩ (by decide);rw [show wrap64 (1368 + 8) = 1376 from by decide +kernel] at h;exact h


theorem prim_nodup : (primL.map strB).Nodup:=by decide +kernel
theorem nmP_get (m : Nat) (h : m < 130) : primL[m]? = some (nmP m):=by
  have hl : primL.length = 130:=by decide +kernel
  unfold nmP;rw [List.getD_eq_getElem?_getD,List.getElem?_eq_getElem (by omega)];rfl
theorem nmP_ne {i m : Nat} (hi : i < m) (hm : m < 130) : strB (nmP i) ≠ strB (nmP m):=by
  intro e;have h:=prim_nodup;have hl : primL.length = 130:=by decide +kernel
  rw [List.Nodup,List.pairwise_iff_getElem] at h;have:=h i m (by simp [hl]; omega) (by simp [hl]; omega) hi;simp only [List.getElem_map] at this
  apply this
  have e1:=(List.getElem?_eq_some_iff.1 (nmP_get i (by omega))).2;have e2:=(List.getElem?_eq_some_iff.1 (nmP_get m (by omega))).2;rw [e1,e2];exact e
theorem number_any (m : Nat) (hm : m < 130) (w : World) : Calls Tryz.prog 20 #[.string (strB (nmP m))] w fun e w' => e = .returned (.int .i64 (m : Int)) ∧ Below w.heap.size w w':=by
  have HM : Hid (m < 130):=hm;clear hm;go_enter Tryz.func20,Tryz.ntmps20;(go_wp2_with fail);refine (rnames_any _).mono ?_;rintro e w1 ⟨rfl,hs,bb⟩;have HS:=zqh hs;have HB:=zqh bb;clear hs bb;(go_wp2_with fail)
  go_loopw [4] (fun s4 wr => ∃ (k : Nat),s4 = .int .i64 (k : Int) ∧ k ≤ m ∧ w1 = wr) (fun s4 _ => m - (intOf s4).toNat)
  case atStart => exact ⟨0,rfl,Nat.zero_le _,rfl⟩
  case round =>
    obtain ⟨k,rfl,hk,rfl⟩:=hrel;have hkl : k < primL.length:=by have:=HM.out; rw [show primL.length = 130 from by decide +kernel]; omega
    obtain ⟨g,o,hA,hc⟩:=sts_cell HS.out hkl;obtain ⟨rfl,rfl⟩ : g = w.heap.size ∧ o = 0:=by injection hA with e; injection e with e1 e2 _; exact ⟨e1.symm,e2.symm⟩
    have e1 : primL[k] = nmP k:=(List.getElem?_eq_some_iff.1 (nmP_get k (by have:=HM.out; omega))).2;rw [e1,Nat.zero_add] at hc;have hka : (k : Int) < 130:=by have:=HM.out; omega
    by_cases he : k = m
    · subst he
      clear hk e1 hkl hA;(go_wp2_with fail);go_ret;exact ⟨rfl,HB.out⟩
    · have hne:=str_ne (nmP_ne (by omega : k < m) HM.out)
      have hne2:=str_neq (nmP_ne (by omega : k < m) HM.out);have HK : Hid (k < m):=zqh (by omega);clear he hk e1 hkl hA;(go_wp2_with fail)
      go_roundw
      case rel => exact ⟨k + 1,by simp,HK.out,by trivial⟩
      case measure => have:=HK.out; simp [intOf]; omega
end Go.Proofs.YtcmldhjicjmmgaaGreatDoor
