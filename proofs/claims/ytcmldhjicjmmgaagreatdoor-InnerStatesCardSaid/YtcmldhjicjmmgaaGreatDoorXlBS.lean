/- Part 45. -/
import Derived.Test.YtcmldhjicjmmgaaGreatDoorXlBO
import Derived.Test.YtcmldhjicjmmgaaGreatDoorXlBR
set_option linter.unusedVariables false
set_option linter.unusedSimpArgs false
set_option maxRecDepth 100000
set_option maxHeartbeats 4000000

namespace Go.Proofs.YtcmldhjicjmmgaaGreatDoor
open Go.RowKit


theorem kw_prim {K : VmK} (a : Addr) {M : PM} {D R D2 : List Int} {ip x fu n : Int} (C : M.1.length = 2048) (x0 : 0 ≤ x) (x1 : x ≤ 2024) (x8 : x % 8 = 0) (hx : fetchF M x = n) (hb : codeB n = true) (F : Fu fu) (h23 : 23 ≤ n ∧ n ≤ 129) (H : PGo n K (stL9 M D R) K (stL9 M D2 R)) : StepTo (stKW K a M D R ip x fu) (stK K a M D2 R ip (fu - 1)) false 0:=by
  exact step_ok (S1:=stK K a M D R ip (fu - 1)) F.1 F.2 rfl (nexts_do (stKW K a M D R ip x fu) rfl) (fun X => word_prim (isk rfl C x0 (Int.le_trans x1 (by decide)) x8 hx hb) h23 H)
def stN : List Nat:=[100,101,102,93,124,125,126,38,98]
def sxW (i : Nat) : Int:=32 + 8 * ((stN.getD i 0 : Nat) : Int)
def stD : List (List Int):=[[-1],[0],[32],[1368],[0],[0],[0],[0],[0]]
def stM (s k : Int) (z : Nat) : Nat → PM
  | 0 => storeF (storeF (storeF B0 1368 260) 1384 s) 1392 k
  | i + 1 => if i = z then stM s k z i else storeF (stM s k z i) (1400 + 8 * (i : Int)) (sxW i)
structure MachM (s k : Int) (z i : Nat) (M : PM) : Prop where
  n : NewM M
  p : M.2.length ≤ 3 + i
  f : fetchF M 1368 = 260
  s : fetchF M 1384 = s
  k : fetchF M 1392 = k
  c : ∀ j : Nat,j < i → j ≠ z → fetchF M (1400 + 8 * (j : Int)) = sxW j
  e : ∀ j : Nat,j < 9 → (i ≤ j ∨ j = z) → fetchF M (1400 + 8 * (j : Int)) = 0
theorem zero_b0 : ∀ j : Nat,j < 9 → fetchF B0 (1400 + 8 * (j : Int)) = 0:=by
  intro j hj;show fetchF (rowN 2048 167,[]) _ = 0;rw [show (1400 + 8 * (j : Int)) = ((1400 + 8 * j : Nat) : Int) by omega,fetch_row (L:=2048) (by omega) (by omega)];have h : ∀ j : Nat,j < 9 → wrap64 (eight (byteN 167 (1400 + 8 * j)).toNat (byteN 167 (1400 + 8 * j + 1)).toNat (byteN 167 (1400 + 8 * j + 2)).toNat (byteN 167 (1400 + 8 * j + 3)).toNat (byteN 167 (1400 + 8 * j + 4)).toNat (byteN 167 (1400 + 8 * j + 5)).toNat (byteN 167 (1400 + 8 * j + 6)).toNat (byteN 167 (1400 + 8 * j + 7)).toNat : Int) = 0:=by decide +kernel
  exact h j hj
theorem sxW_lt : ∀ i : Nat,i < 9 → 304 ≤ sxW i ∧ sxW i ≤ 1040:=by decide
theorem mach_0 {s k : Int} (hs : cellR s) (hk : cellR k) (z : Nat) : MachM s k z 0 (stM s k z 0):=by
  have n1:=new_b0.store (p:=1368) (x:=260) (by decide) (by decide) (by decide) (by decide);have p1:=store_pats B0 1368 260;have n2:=n1.store (p:=1384) (x:=s) (by decide) (by decide) (by decide) (by have : B0.2.length = 0:=rfl; omega);have p2:=store_pats (storeF B0 1368 260) 1384 s;have n3:=n2.store (p:=1392) (x:=k) (by decide) (by decide) (by decide) (by have : B0.2.length = 0:=rfl; omega);have p3:=store_pats (storeF (storeF B0 1368 260) 1384 s) 1392 k;refine ⟨n3,by have : B0.2.length = 0:=rfl; show (storeF (storeF (storeF B0 1368 260) 1384 s) 1392 k).2.length ≤ _; omega,?_,?_,?_,fun j h => absurd h (by omega),fun j h _ => ?_⟩
  · show fetchF (storeF (storeF (storeF B0 1368 260) 1384 s) 1392 k) 1368 = _
    rw [n2.away (by decide) (by decide) (by decide) (by decide) (by decide),n1.away (by decide) (by decide) (by decide) (by decide) (by decide)];exact new_b0.there (by decide) (by decide) (by decide) (by unfold cellR; decide)
  · show fetchF (storeF (storeF (storeF B0 1368 260) 1384 s) 1392 k) 1384 = _
    rw [n2.away (by decide) (by decide) (by decide) (by decide) (by decide)];exact n1.there (by decide) (by decide) (by decide) hs
  · exact n2.there (by decide) (by decide) (by decide) hk
  · show fetchF (storeF (storeF (storeF B0 1368 260) 1384 s) 1392 k) _ = _
    rw [n2.away (by decide) (by decide) (by decide) (by omega) (by omega),n1.away (by decide) (by decide) (by decide) (by omega) (by omega),new_b0.away (by decide) (by decide) (by decide) (by omega) (by omega)];exact zero_b0 j h
theorem mach_of {s k : Int} (hs : cellR s) (hk : cellR k) (z : Nat) : ∀ i : Nat,i ≤ 9 → MachM s k z i (stM s k z i)
  | 0,_ => mach_0 hs hk z
  | i + 1,h => by
    have m:=mach_of hs hk z i (by omega)
    by_cases hz : i = z
    · have e : stM s k z (i + 1) = stM s k z i:=if_pos hz
      rw [e];exact ⟨m.n,by have:=m.p; omega,m.f,m.s,m.k,fun j h1 h2 => m.c j (by omega) h2,fun j h1 h2 => m.e j h1 (by omega)⟩
    · have e : stM s k z (i + 1) = storeF (stM s k z i) (1400 + 8 * (i : Int)) (sxW i):=if_neg hz
      rw [e];have q0 : (1368 : Int) ≤ 1400 + 8 * (i : Int):=by omega
      have q1 : 1400 + 8 * (i : Int) ≤ 2040:=by omega
      have q8 : (1400 + 8 * (i : Int)) % 8 = 0:=by omega
      have pp:=store_pats (stM s k z i) (1400 + 8 * (i : Int)) (sxW i);have aw : ∀ p : Int,0 ≤ p → (p + 8 ≤ 1400 + 8 * (i : Int) ∨ 1400 + 8 * (i : Int) + 8 ≤ p) → fetchF (storeF (stM s k z i) (1400 + 8 * (i : Int)) (sxW i)) p = fetchF (stM s k z i) p:=fun p p0 hp => m.n.away (by omega) q1 q8 p0 hp
      refine ⟨m.n.store q0 q1 q8 (by have:=m.p; omega),by have:=m.p; omega,?_,?_,?_,fun j h1 h2 => ?_,fun j h1 h2 => ?_⟩
      · rw [aw _ (by decide) (by omega)]; exact m.f
      · rw [aw _ (by decide) (by omega)]; exact m.s
      · rw [aw _ (by decide) (by omega)]; exact m.k
      · by_cases hj : j = i
        · subst hj
          have:=sxW_lt j (by omega);exact m.n.there (by omega) q1 q8 (by unfold cellR; omega)
        · rw [aw _ (by omega) (by omega)]; exact m.c j (by omega) h2
      · rw [aw _ (by omega) (by omega)]; exact m.e j h1 (by omega)
theorem st_go0 {M : PM} (h : MemOk M) : PGo 100 freK (stL9 M [] []) freK (stL9 M [-1] []) :=
  pgo_of (m:=100) (by omega) (by omega) (fun g w hs => deeds_98 100 (by omega) (by omega) g w hs) (ok_fre h (by decide) (by intro x hx; cases hx)) (by kernel_rfl) (by kernel_rfl) (by exact Sc.refl _)
theorem st_go1 {M : PM} (h : MemOk M) : PGo 101 freK (stL9 M [] []) freK (stL9 M [0] []) :=
  pgo_of (m:=101) (by omega) (by omega) (fun g w hs => deeds_98 101 (by omega) (by omega) g w hs) (ok_fre h (by decide) (by intro x hx; cases hx)) (by kernel_rfl) (by kernel_rfl) (by exact Sc.refl _)
theorem st_go2 {M : PM} (h : MemOk M) : PGo 102 freK (stL9 M [] []) freK (stL9 M [32] []) :=
  pgo_of (m:=102) (by omega) (by omega) (fun g w hs => deeds_98 102 (by omega) (by omega) g w hs) (ok_fre h (by decide) (by intro x hx; cases hx)) (by kernel_rfl) (by kernel_rfl) (by exact Sc.refl _)
theorem st_go3 {M : PM} (h : MemOk M) : PGo 93 freK (stL9 M [] []) freK (stL9 M [1368] []) :=
  pgo_of (m:=93) (by omega) (by omega) (fun g w hs => deeds_93 93 (by omega) (by omega) g w hs) (ok_fre h (by decide) (by intro x hx; cases hx)) (by kernel_rfl) (by kernel_rfl) (by exact Sc.refl _)
theorem st_go4 {M : PM} (h : MemOk M) : PGo 124 freK (stL9 M [] []) freK (stL9 M [0] []) :=
  pgo_of (m:=124) (by omega) (by omega) (fun g w hs => deeds_120 124 (by omega) (by omega) g w hs) (ok_fre h (by decide) (by intro x hx; cases hx)) (by kernel_rfl) (by kernel_rfl) (by exact Sc.refl _)
theorem st_go5 {M : PM} (h : MemOk M) : PGo 125 freK (stL9 M [] []) freK (stL9 M [0] []) :=
  pgo_of (m:=125) (by omega) (by omega) (fun g w hs => deeds_120 125 (by omega) (by omega) g w hs) (ok_fre h (by decide) (by intro x hx; cases hx)) (by kernel_rfl) (by kernel_rfl) (by exact Sc.refl _)
theorem st_go6 {M : PM} (h : MemOk M) : PGo 126 freK (stL9 M [] []) freK (stL9 M [0] []) :=
  pgo_of (m:=126) (by omega) (by omega) (fun g w hs => deeds_120 126 (by omega) (by omega) g w hs) (ok_fre h (by decide) (by intro x hx; cases hx)) (by kernel_rfl) (by kernel_rfl) (by exact Sc.refl _)
theorem st_go7 {M : PM} (h : MemOk M) : PGo 38 freK (stL9 M [] []) freK (stL9 M [0] []) :=
  pgo_of (m:=38) (by omega) (by omega) (fun g w hs => deeds_23 38 (by omega) (by omega) g w hs) (ok_fre h (by decide) (by intro x hx; cases hx)) (by kernel_rfl) (by kernel_rfl) (by exact Sc.refl _)
theorem st_go8 {M : PM} (h : MemOk M) : PGo 98 freK (stL9 M [] []) freK (stL9 M [0] []) :=
  pgo_of (m:=98) (by omega) (by omega) (fun g w hs => deeds_98 98 (by omega) (by omega) g w hs) (ok_fre h (by decide) (by intro x hx; cases hx)) (by kernel_rfl) (by kernel_rfl) (by exact Sc.refl _)
theorem st_go {M : PM} (h : MemOk M) (j : Nat) (hj : j < 9) : PGo ((stN.getD j 0 : Nat) : Int) freK (stL9 M [] []) freK (stL9 M (stD.getD j []) []):=by
  obtain rfl | rfl | rfl | rfl | rfl | rfl | rfl | rfl | rfl : j = 0 ∨ j = 1 ∨ j = 2 ∨ j = 3 ∨ j = 4 ∨ j = 5 ∨ j = 6 ∨ j = 7 ∨ j = 8:=by omega
  · exact st_go0 h
  · exact st_go1 h
  · exact st_go2 h
  · exact st_go3 h
  · exact st_go4 h
  · exact st_go5 h
  · exact st_go6 h
  · exact st_go7 h
  · exact st_go8 h
theorem stN_lt : ∀ j : Nat,j < 9 → 23 ≤ stN.getD j 0 ∧ stN.getD j 0 < 130:=by decide
theorem mach_lets {s k : Int} {z i : Nat} (a : Addr) (m : MachM s k z i (stM s k z i)) {S2 : (Nat → Prop) → RS} {e : Value} (H : ∀ X,WGo1 80 1384 (stKX freK a (stM s k z i) [] [] 16 19 X) (S2 X) e) : ∀ X,WGo1 39 1368 (stKX freK a (stM s k z i) [] [] 16 19 X) (S2 X) e :=
  fun X => word_260 (isk rfl m.n.l (by decide) (by decide) (by decide) m.f (by decide)) (made_mach _ _ e (H X))
theorem mach_nexts (a : Addr) (M : PM) : Nexts (stKW freK a M [] [] 16 1368 20) 1368 (stK freK a M [] [] 16 19):=nexts_do (stKW freK a M [] [] 16 1368 20) rfl
theorem mach_bad {s k : Int} {z i : Nat} (a : Addr) (m : MachM s k z i (stM s k z i)) (hb : s < 0 ∨ (¬ s < 0 ∧ k ≤ s)) : Runs 1 (stKW freK a (stM s k z i) [] [] 16 1368 20) (stK freK a (stM s k z i) [] [] 16 19) (-24):=by
  refine .last (ov:=false) ?_ (.inr (by decide));have hm : (stM s k z i).1.length ≤ 65536:=by rw [m.n.l]; decide
  rcases hb with hs | ⟨hs,hg⟩
  · exact step_code (S:=stKW freK a (stM s k z i) [] [] 16 1368 20) (S1:=stK freK a (stM s k z i) [] [] 16 19) (S2:=stK freK a (stM s k z i) [] [] 16 19) (by show (1 : Int) ≤ 20; decide) (by show (20 : Int) ≤ 1000000000; decide) rfl rfl (mach_nexts a _) (mach_lets a m fun X => state_neg _ s k (cell_in m.n.l (by decide) (by decide) (by decide)) (cell_in m.n.l (by decide) (by decide) (by decide)) hm m.s m.k hs)
  · exact step_code (S:=stKW freK a (stM s k z i) [] [] 16 1368 20) (S1:=stK freK a (stM s k z i) [] [] 16 19) (S2:=stK freK a (stM s k z i) [] [] 16 19) (by show (1 : Int) ≤ 20; decide) (by show (20 : Int) ≤ 1000000000; decide) rfl rfl (mach_nexts a _) (mach_lets a m fun X => state_far _ s k (cell_in m.n.l (by decide) (by decide) (by decide)) (cell_in m.n.l (by decide) (by decide) (by decide)) hm m.s m.k hs hg)
theorem mach_none {k : Int} {z i j : Nat} (a : Addr) (m : MachM (j : Int) k z i (stM (j : Int) k z i)) (hj : j < 9) (hk : (j : Int) < k) (hz : i ≤ j ∨ j = z) : Runs 2 (stKW freK a (stM (j : Int) k z i) [] [] 16 1368 20) (stK freK a (stM (j : Int) k z i) [] [] 24 18) 0:=by
  have hm : (stM (j : Int) k z i).1.length ≤ 65536:=by rw [m.n.l]; decide
  have s0 : StepTo (stKW freK a (stM (j : Int) k z i) [] [] 16 1368 20) (stK freK a (stM (j : Int) k z i) [] [] 16 19) false 0 :=
    step_ok (S1:=stK freK a (stM (j : Int) k z i) [] [] 16 19) (by show (1 : Int) ≤ 20; decide) (by show (20 : Int) ≤ 1000000000; decide) rfl (mach_nexts a _) (mach_lets a m fun X => state_none _ j k (cell_in m.n.l (by decide) (by decide) (by decide)) (cell_in m.n.l (by decide) (by decide) (by decide)) hm (cell_in m.n.l (by omega) (by omega) (by omega)) m.s m.k (m.e j hj hz) hj hk)
  have s1 : StepTo (stK freK a (stM (j : Int) k z i) [] [] 16 19) (stK freK a (stM (j : Int) k z i) [] [] 24 18) true 0:=by
    have h:=k_halt (K:=freK) (D:=[]) (R:=[]) (fu:=19) a m.n.halts ⟨by decide,by decide⟩;exact h
  exact .more s0 (show a = a from rfl) (.last s1 (.inl rfl))
theorem mach_goes {k : Int} {z i j : Nat} (a : Addr) (m : MachM (j : Int) k z i (stM (j : Int) k z i)) (hj : j < 9) (hk : (j : Int) < k) (hi : j < i) (hz : j ≠ z) (hp : i ≤ 9) : Runs 3 (stKW freK a (stM (j : Int) k z i) [] [] 16 1368 20) (stK freK a (stM (j : Int) k z i) (stD.getD j []) [] 24 17) 0:=by
  have hm : (stM (j : Int) k z i).1.length ≤ 65536:=by rw [m.n.l]; decide
  have lt:=sxW_lt j hj;have ln:=stN_lt j hj;have s0 : StepTo (stKW freK a (stM (j : Int) k z i) [] [] 16 1368 20) (stKW freK a (stM (j : Int) k z i) [] [] 16 (sxW j) 19) false 0 :=
    step_ok (S1:=stK freK a (stM (j : Int) k z i) [] [] 16 19) (by show (1 : Int) ≤ 20; decide) (by show (20 : Int) ≤ 1000000000; decide) rfl (mach_nexts a _) (mach_lets a m fun X => state_goes _ j k (sxW j) (cell_in m.n.l (by decide) (by decide) (by decide)) (cell_in m.n.l (by decide) (by decide) (by decide)) hm (cell_in m.n.l (by omega) (by omega) (by omega)) m.s m.k (m.c j hi hz) hj hk (by simp; omega))
  have s1 : StepTo (stKW freK a (stM (j : Int) k z i) [] [] 16 (sxW j) 19) (stK freK a (stM (j : Int) k z i) (stD.getD j []) [] 16 18) false 0:=by
    have h:=kw_prim (K:=freK) (ip:=16) (x:=sxW j) (fu:=19) (n:=((stN.getD j 0 : Nat) : Int)) a m.n.l (by omega) (by omega) (by unfold sxW; omega) (m.n.num _ ln.2) (by unfold codeB; rw [decide_eq_true_eq]; omega) ⟨by decide,by decide⟩ (by omega) (st_go ⟨m.n.l,m.n.p⟩ j hj);exact h
  have s2 : StepTo (stK freK a (stM (j : Int) k z i) (stD.getD j []) [] 16 18) (stK freK a (stM (j : Int) k z i) (stD.getD j []) [] 24 17) true 0:=by
    have h:=k_halt (K:=freK) (D:=stD.getD j []) (R:=[]) (fu:=18) a m.n.halts ⟨by decide,by decide⟩;exact h
  exact .more s0 (show a = a from rfl) (.more s1 (show a = a from rfl) (.last s2 (.inl rfl)))


def sNs : List ByteArray:=[⟨#[84,82,85,69]⟩,⟨#[70,65,76,83,69]⟩,⟨#[66,76]⟩,⟨#[72,69,82,69]⟩,⟨#[65,82,71]⟩,⟨#[83,69,76,70]⟩,⟨#[78,79,87]⟩,⟨#[68,69,80,84,72]⟩,⟨#[66,65,83,69]⟩]
def sN (i : Nat) : ByteArray:=sNs.getD i ⟨#[]⟩
theorem sN_is (i : Nat) (h : i < 9) : sN i = strB (nmP (stN.getD i 0)):=by
  obtain rfl | rfl | rfl | rfl | rfl | rfl | rfl | rfl | rfl : i = 0 ∨ i = 1 ∨ i = 2 ∨ i = 3 ∨ i = 4 ∨ i = 5 ∨ i = 6 ∨ i = 7 ∨ i = 8:=by omega
  · kernel_rfl
  · kernel_rfl
  · kernel_rfl
  · kernel_rfl
  · kernel_rfl
  · kernel_rfl
  · kernel_rfl
  · kernel_rfl
  · kernel_rfl
def sVs : List Int:=[-1,0,32,1368,0,0,0,0,0]
def sV (i : Nat) : Int:=sVs.getD i 0
theorem stD_is (i : Nat) (h : i < 9) : stD.getD i [] = [sV i]:=by
  obtain rfl | rfl | rfl | rfl | rfl | rfl | rfl | rfl | rfl : i = 0 ∨ i = 1 ∨ i = 2 ∨ i = 3 ∨ i = 4 ∨ i = 5 ∨ i = 6 ∨ i = 7 ∨ i = 8:=by omega
  · rfl
  · rfl
  · rfl
  · rfl
  · rfl
  · rfl
  · rfl
  · rfl
  · rfl
structure RowsAt (b0 gN gW : Nat) (w : World) : Prop where
  n : ∀ i : Nat,i < 9 → w.cell? ⟨gN,i,none⟩ = some (.string (sN i))
  t : ∀ i : Nat,i < 9 → ∃ b,b ≠ b0 ∧ b < w.heap.size ∧ w.cell? ⟨gW,i,none⟩ = some (.slice (some ⟨b,0,none⟩) 1 1) ∧ w.cell? ⟨b,0,none⟩ = some (.int .i64 (sV i))
  hN : gN ≠ b0 ∧ gN < w.heap.size
  hW : gW ≠ b0 ∧ gW < w.heap.size
theorem RowsAt.ex {b0 gN gW : Nat} {w w' : World} (h : RowsAt b0 gN gW w) (x : Ex (fun g => g = b0) w w') : RowsAt b0 gN gW w':=by
  have hc : ∀ g i,g < w.heap.size → g ≠ b0 → w'.cell? ⟨g,i,none⟩ = w.cell? ⟨g,i,none⟩:=fun g i h1 h2 => by
    unfold World.cell?;rw [x.same g h1 h2]
  refine ⟨fun i hi => (hc _ _ h.hN.2 h.hN.1).trans (h.n i hi),fun i hi => ?_,⟨h.hN.1,Nat.lt_of_lt_of_le h.hN.2 x.size⟩,⟨h.hW.1,Nat.lt_of_lt_of_le h.hW.2 x.size⟩⟩;obtain ⟨b,h1,h2,h3,h4⟩:=h.t i hi;exact ⟨b,h1,Nat.lt_of_lt_of_le h2 x.size,(hc _ _ h.hW.2 h.hW.1).trans h3,(hc _ _ h2 h1).trans h4⟩
theorem RowsAt.keep {b0 gN gW : Nat} {w w' : World} (h : RowsAt b0 gN gW w) (b : Below w.heap.size w w') : RowsAt b0 gN gW w':=h.ex ((Ex.refl _ _).below b)
theorem blk_keep {w w' : World} (b : Below w.heap.size w w') {g : Nat} {x : Obj} (h : w.heap[g]? = some x) : w'.heap[g]? = some x:=(b.block g (Array.getElem?_eq_some_iff.1 h).1).trans h
theorem rows_at (w : World) (b0 : Nat) (h0 : b0 < w.heap.size) : RowsAt b0 w.heap.size (w.heap.size + 1 + 1 + 1 + 1 + 1 + 1 + 1 + 1 + 1 + 1) (((((((((((w.alloc (.cells #[.string ⟨#[84,82,85,69]⟩,.string ⟨#[70,65,76,83,69]⟩,.string ⟨#[66,76]⟩,.string ⟨#[72,69,82,69]⟩,.string ⟨#[65,82,71]⟩,.string ⟨#[83,69,76,70]⟩,.string ⟨#[78,79,87]⟩,.string ⟨#[68,69,80,84,72]⟩,.string ⟨#[66,65,83,69]⟩] 9)).alloc (.cells #[.int .i64 (-1)] 3)).alloc (.cells #[.int .i64 0] 3)).alloc (.cells #[.int .i64 32] 3)).alloc (.cells #[.int .i64 1368] 3)).alloc (.cells #[.int .i64 0] 3)).alloc (.cells #[.int .i64 0] 3)).alloc (.cells #[.int .i64 0] 3)).alloc (.cells #[.int .i64 0] 3)).alloc (.cells #[.int .i64 0] 3)).alloc (.cells #[.slice (some ⟨w.heap.size + 1,0,none⟩) 1 1,.slice (some ⟨w.heap.size + 1 + 1,0,none⟩) 1 1,.slice (some ⟨w.heap.size + 1 + 1 + 1,0,none⟩) 1 1,.slice (some ⟨w.heap.size + 1 + 1 + 1 + 1,0,none⟩) 1 1,.slice (some ⟨w.heap.size + 1 + 1 + 1 + 1 + 1,0,none⟩) 1 1,.slice (some ⟨w.heap.size + 1 + 1 + 1 + 1 + 1 + 1,0,none⟩) 1 1,.slice (some ⟨w.heap.size + 1 + 1 + 1 + 1 + 1 + 1 + 1,0,none⟩) 1 1,.slice (some ⟨w.heap.size + 1 + 1 + 1 + 1 + 1 + 1 + 1 + 1,0,none⟩) 1 1,.slice (some ⟨w.heap.size + 1 + 1 + 1 + 1 + 1 + 1 + 1 + 1 + 1,0,none⟩) 1 1] 22)) ∧ Below w.heap.size w (((((((((((w.alloc (.cells #[.string ⟨#[84,82,85,69]⟩,.string ⟨#[70,65,76,83,69]⟩,.string ⟨#[66,76]⟩,.string ⟨#[72,69,82,69]⟩,.string ⟨#[65,82,71]⟩,.string ⟨#[83,69,76,70]⟩,.string ⟨#[78,79,87]⟩,.string ⟨#[68,69,80,84,72]⟩,.string ⟨#[66,65,83,69]⟩] 9)).alloc (.cells #[.int .i64 (-1)] 3)).alloc (.cells #[.int .i64 0] 3)).alloc (.cells #[.int .i64 32] 3)).alloc (.cells #[.int .i64 1368] 3)).alloc (.cells #[.int .i64 0] 3)).alloc (.cells #[.int .i64 0] 3)).alloc (.cells #[.int .i64 0] 3)).alloc (.cells #[.int .i64 0] 3)).alloc (.cells #[.int .i64 0] 3)).alloc (.cells #[.slice (some ⟨w.heap.size + 1,0,none⟩) 1 1,.slice (some ⟨w.heap.size + 1 + 1,0,none⟩) 1 1,.slice (some ⟨w.heap.size + 1 + 1 + 1,0,none⟩) 1 1,.slice (some ⟨w.heap.size + 1 + 1 + 1 + 1,0,none⟩) 1 1,.slice (some ⟨w.heap.size + 1 + 1 + 1 + 1 + 1,0,none⟩) 1 1,.slice (some ⟨w.heap.size + 1 + 1 + 1 + 1 + 1 + 1,0,none⟩) 1 1,.slice (some ⟨w.heap.size + 1 + 1 + 1 + 1 + 1 + 1 + 1,0,none⟩) 1 1,.slice (some ⟨w.heap.size + 1 + 1 + 1 + 1 + 1 + 1 + 1 + 1,0,none⟩) 1 1,.slice (some ⟨w.heap.size + 1 + 1 + 1 + 1 + 1 + 1 + 1 + 1 + 1,0,none⟩) 1 1] 22)):=by
  have a0:=al_one w (.cells #[.string ⟨#[84,82,85,69]⟩,.string ⟨#[70,65,76,83,69]⟩,.string ⟨#[66,76]⟩,.string ⟨#[72,69,82,69]⟩,.string ⟨#[65,82,71]⟩,.string ⟨#[83,69,76,70]⟩,.string ⟨#[78,79,87]⟩,.string ⟨#[68,69,80,84,72]⟩,.string ⟨#[66,65,83,69]⟩] 9);have n0:=heap_alloc_new w (.cells #[.string ⟨#[84,82,85,69]⟩,.string ⟨#[70,65,76,83,69]⟩,.string ⟨#[66,76]⟩,.string ⟨#[72,69,82,69]⟩,.string ⟨#[65,82,71]⟩,.string ⟨#[83,69,76,70]⟩,.string ⟨#[78,79,87]⟩,.string ⟨#[68,69,80,84,72]⟩,.string ⟨#[66,65,83,69]⟩] 9);have z0 : (w.alloc (.cells #[.string ⟨#[84,82,85,69]⟩,.string ⟨#[70,65,76,83,69]⟩,.string ⟨#[66,76]⟩,.string ⟨#[72,69,82,69]⟩,.string ⟨#[65,82,71]⟩,.string ⟨#[83,69,76,70]⟩,.string ⟨#[78,79,87]⟩,.string ⟨#[68,69,80,84,72]⟩,.string ⟨#[66,65,83,69]⟩] 9)).heap.size = w.heap.size + 1:=by simp
  generalize w.alloc (.cells #[.string ⟨#[84,82,85,69]⟩,.string ⟨#[70,65,76,83,69]⟩,.string ⟨#[66,76]⟩,.string ⟨#[72,69,82,69]⟩,.string ⟨#[65,82,71]⟩,.string ⟨#[83,69,76,70]⟩,.string ⟨#[78,79,87]⟩,.string ⟨#[68,69,80,84,72]⟩,.string ⟨#[66,65,83,69]⟩] 9) = u0 at *;have s0 : u0.heap.size = w.heap.size + 1:=z0;have a1:=al_one u0 (.cells #[.int .i64 (-1)] 3);have n1:=heap_alloc_new u0 (.cells #[.int .i64 (-1)] 3);have z1 : (u0.alloc (.cells #[.int .i64 (-1)] 3)).heap.size = u0.heap.size + 1:=by simp
  rw [s0] at n1 z1;generalize u0.alloc (.cells #[.int .i64 (-1)] 3) = u1 at *;have s1 : u1.heap.size = w.heap.size + 1 + 1:=z1;have a2:=al_one u1 (.cells #[.int .i64 0] 3);have n2:=heap_alloc_new u1 (.cells #[.int .i64 0] 3);have z2 : (u1.alloc (.cells #[.int .i64 0] 3)).heap.size = u1.heap.size + 1:=by simp
  rw [s1] at n2 z2;generalize u1.alloc (.cells #[.int .i64 0] 3) = u2 at *;have s2 : u2.heap.size = w.heap.size + 1 + 1 + 1:=z2;have a3:=al_one u2 (.cells #[.int .i64 32] 3);have n3:=heap_alloc_new u2 (.cells #[.int .i64 32] 3);have z3 : (u2.alloc (.cells #[.int .i64 32] 3)).heap.size = u2.heap.size + 1:=by simp
  rw [s2] at n3 z3;generalize u2.alloc (.cells #[.int .i64 32] 3) = u3 at *;have s3 : u3.heap.size = w.heap.size + 1 + 1 + 1 + 1:=z3;have a4:=al_one u3 (.cells #[.int .i64 1368] 3);have n4:=heap_alloc_new u3 (.cells #[.int .i64 1368] 3);have z4 : (u3.alloc (.cells #[.int .i64 1368] 3)).heap.size = u3.heap.size + 1:=by simp
  rw [s3] at n4 z4;generalize u3.alloc (.cells #[.int .i64 1368] 3) = u4 at *;have s4 : u4.heap.size = w.heap.size + 1 + 1 + 1 + 1 + 1:=z4;have a5:=al_one u4 (.cells #[.int .i64 0] 3);have n5:=heap_alloc_new u4 (.cells #[.int .i64 0] 3);have z5 : (u4.alloc (.cells #[.int .i64 0] 3)).heap.size = u4.heap.size + 1:=by simp
  rw [s4] at n5 z5;generalize u4.alloc (.cells #[.int .i64 0] 3) = u5 at *;have s5 : u5.heap.size = w.heap.size + 1 + 1 + 1 + 1 + 1 + 1:=z5;have a6:=al_one u5 (.cells #[.int .i64 0] 3);have n6:=heap_alloc_new u5 (.cells #[.int .i64 0] 3);have z6 : (u5.alloc (.cells #[.int .i64 0] 3)).heap.size = u5.heap.size + 1:=by simp
  rw [s5] at n6 z6;generalize u5.alloc (.cells #[.int .i64 0] 3) = u6 at *;have s6 : u6.heap.size = w.heap.size + 1 + 1 + 1 + 1 + 1 + 1 + 1:=z6;have a7:=al_one u6 (.cells #[.int .i64 0] 3);have n7:=heap_alloc_new u6 (.cells #[.int .i64 0] 3);have z7 : (u6.alloc (.cells #[.int .i64 0] 3)).heap.size = u6.heap.size + 1:=by simp
  rw [s6] at n7 z7;generalize u6.alloc (.cells #[.int .i64 0] 3) = u7 at *;have s7 : u7.heap.size = w.heap.size + 1 + 1 + 1 + 1 + 1 + 1 + 1 + 1:=z7;have a8:=al_one u7 (.cells #[.int .i64 0] 3);have n8:=heap_alloc_new u7 (.cells #[.int .i64 0] 3);have z8 : (u7.alloc (.cells #[.int .i64 0] 3)).heap.size = u7.heap.size + 1:=by simp
  rw [s7] at n8 z8;generalize u7.alloc (.cells #[.int .i64 0] 3) = u8 at *;have s8 : u8.heap.size = w.heap.size + 1 + 1 + 1 + 1 + 1 + 1 + 1 + 1 + 1:=z8;have a9:=al_one u8 (.cells #[.int .i64 0] 3);have n9:=heap_alloc_new u8 (.cells #[.int .i64 0] 3);have z9 : (u8.alloc (.cells #[.int .i64 0] 3)).heap.size = u8.heap.size + 1:=by simp
  rw [s8] at n9 z9;generalize u8.alloc (.cells #[.int .i64 0] 3) = u9 at *;have s9 : u9.heap.size = w.heap.size + 1 + 1 + 1 + 1 + 1 + 1 + 1 + 1 + 1 + 1:=z9;have a10:=al_one u9 (.cells #[.slice (some ⟨w.heap.size + 1,0,none⟩) 1 1,.slice (some ⟨w.heap.size + 1 + 1,0,none⟩) 1 1,.slice (some ⟨w.heap.size + 1 + 1 + 1,0,none⟩) 1 1,.slice (some ⟨w.heap.size + 1 + 1 + 1 + 1,0,none⟩) 1 1,.slice (some ⟨w.heap.size + 1 + 1 + 1 + 1 + 1,0,none⟩) 1 1,.slice (some ⟨w.heap.size + 1 + 1 + 1 + 1 + 1 + 1,0,none⟩) 1 1,.slice (some ⟨w.heap.size + 1 + 1 + 1 + 1 + 1 + 1 + 1,0,none⟩) 1 1,.slice (some ⟨w.heap.size + 1 + 1 + 1 + 1 + 1 + 1 + 1 + 1,0,none⟩) 1 1,.slice (some ⟨w.heap.size + 1 + 1 + 1 + 1 + 1 + 1 + 1 + 1 + 1,0,none⟩) 1 1] 22);have n10:=heap_alloc_new u9 (.cells #[.slice (some ⟨w.heap.size + 1,0,none⟩) 1 1,.slice (some ⟨w.heap.size + 1 + 1,0,none⟩) 1 1,.slice (some ⟨w.heap.size + 1 + 1 + 1,0,none⟩) 1 1,.slice (some ⟨w.heap.size + 1 + 1 + 1 + 1,0,none⟩) 1 1,.slice (some ⟨w.heap.size + 1 + 1 + 1 + 1 + 1,0,none⟩) 1 1,.slice (some ⟨w.heap.size + 1 + 1 + 1 + 1 + 1 + 1,0,none⟩) 1 1,.slice (some ⟨w.heap.size + 1 + 1 + 1 + 1 + 1 + 1 + 1,0,none⟩) 1 1,.slice (some ⟨w.heap.size + 1 + 1 + 1 + 1 + 1 + 1 + 1 + 1,0,none⟩) 1 1,.slice (some ⟨w.heap.size + 1 + 1 + 1 + 1 + 1 + 1 + 1 + 1 + 1,0,none⟩) 1 1] 22);have z10 : (u9.alloc (.cells #[.slice (some ⟨w.heap.size + 1,0,none⟩) 1 1,.slice (some ⟨w.heap.size + 1 + 1,0,none⟩) 1 1,.slice (some ⟨w.heap.size + 1 + 1 + 1,0,none⟩) 1 1,.slice (some ⟨w.heap.size + 1 + 1 + 1 + 1,0,none⟩) 1 1,.slice (some ⟨w.heap.size + 1 + 1 + 1 + 1 + 1,0,none⟩) 1 1,.slice (some ⟨w.heap.size + 1 + 1 + 1 + 1 + 1 + 1,0,none⟩) 1 1,.slice (some ⟨w.heap.size + 1 + 1 + 1 + 1 + 1 + 1 + 1,0,none⟩) 1 1,.slice (some ⟨w.heap.size + 1 + 1 + 1 + 1 + 1 + 1 + 1 + 1,0,none⟩) 1 1,.slice (some ⟨w.heap.size + 1 + 1 + 1 + 1 + 1 + 1 + 1 + 1 + 1,0,none⟩) 1 1] 22)).heap.size = u9.heap.size + 1:=by simp
  rw [s9] at n10 z10;generalize u9.alloc (.cells #[.slice (some ⟨w.heap.size + 1,0,none⟩) 1 1,.slice (some ⟨w.heap.size + 1 + 1,0,none⟩) 1 1,.slice (some ⟨w.heap.size + 1 + 1 + 1,0,none⟩) 1 1,.slice (some ⟨w.heap.size + 1 + 1 + 1 + 1,0,none⟩) 1 1,.slice (some ⟨w.heap.size + 1 + 1 + 1 + 1 + 1,0,none⟩) 1 1,.slice (some ⟨w.heap.size + 1 + 1 + 1 + 1 + 1 + 1,0,none⟩) 1 1,.slice (some ⟨w.heap.size + 1 + 1 + 1 + 1 + 1 + 1 + 1,0,none⟩) 1 1,.slice (some ⟨w.heap.size + 1 + 1 + 1 + 1 + 1 + 1 + 1 + 1,0,none⟩) 1 1,.slice (some ⟨w.heap.size + 1 + 1 + 1 + 1 + 1 + 1 + 1 + 1 + 1,0,none⟩) 1 1] 22) = u10 at *;have s10 : u10.heap.size = w.heap.size + 1 + 1 + 1 + 1 + 1 + 1 + 1 + 1 + 1 + 1 + 1:=z10;have m0:=(blk_keep a10 (blk_keep a9 (blk_keep a8 (blk_keep a7 (blk_keep a6 (blk_keep a5 (blk_keep a4 (blk_keep a3 (blk_keep a2 (blk_keep a1 n0))))))))));have m1:=(blk_keep a10 (blk_keep a9 (blk_keep a8 (blk_keep a7 (blk_keep a6 (blk_keep a5 (blk_keep a4 (blk_keep a3 (blk_keep a2 n1)))))))));have m2:=(blk_keep a10 (blk_keep a9 (blk_keep a8 (blk_keep a7 (blk_keep a6 (blk_keep a5 (blk_keep a4 (blk_keep a3 n2))))))));have m3:=(blk_keep a10 (blk_keep a9 (blk_keep a8 (blk_keep a7 (blk_keep a6 (blk_keep a5 (blk_keep a4 n3)))))));have m4:=(blk_keep a10 (blk_keep a9 (blk_keep a8 (blk_keep a7 (blk_keep a6 (blk_keep a5 n4))))));have m5:=(blk_keep a10 (blk_keep a9 (blk_keep a8 (blk_keep a7 (blk_keep a6 n5)))));have m6:=(blk_keep a10 (blk_keep a9 (blk_keep a8 (blk_keep a7 n6))))
  have m7:=(blk_keep a10 (blk_keep a9 (blk_keep a8 n7)));have m8:=(blk_keep a10 (blk_keep a9 n8));have m9:=(blk_keep a10 n9);have m10:=n10;refine ⟨⟨fun i hi => ?_,fun i hi => ?_,⟨by omega,by omega⟩,⟨by omega,by omega⟩⟩,?_⟩
  · obtain rfl | rfl | rfl | rfl | rfl | rfl | rfl | rfl | rfl : i = 0 ∨ i = 1 ∨ i = 2 ∨ i = 3 ∨ i = 4 ∨ i = 5 ∨ i = 6 ∨ i = 7 ∨ i = 8:=by omega
    · exact (cell_of_row _ _ 0 _ _ _ m0).trans rfl
    · exact (cell_of_row _ _ 1 _ _ _ m0).trans rfl
    · exact (cell_of_row _ _ 2 _ _ _ m0).trans rfl
    · exact (cell_of_row _ _ 3 _ _ _ m0).trans rfl
    · exact (cell_of_row _ _ 4 _ _ _ m0).trans rfl
    · exact (cell_of_row _ _ 5 _ _ _ m0).trans rfl
    · exact (cell_of_row _ _ 6 _ _ _ m0).trans rfl
    · exact (cell_of_row _ _ 7 _ _ _ m0).trans rfl
    · exact (cell_of_row _ _ 8 _ _ _ m0).trans rfl
  · obtain rfl | rfl | rfl | rfl | rfl | rfl | rfl | rfl | rfl : i = 0 ∨ i = 1 ∨ i = 2 ∨ i = 3 ∨ i = 4 ∨ i = 5 ∨ i = 6 ∨ i = 7 ∨ i = 8:=by omega
    · exact ⟨w.heap.size + 1,by omega,by omega,(cell_of_row _ _ 0 _ _ _ m10).trans rfl,(cell_of_row _ _ 0 _ _ _ m1).trans rfl⟩
    · exact ⟨w.heap.size + 1 + 1,by omega,by omega,(cell_of_row _ _ 1 _ _ _ m10).trans rfl,(cell_of_row _ _ 0 _ _ _ m2).trans rfl⟩
    · exact ⟨w.heap.size + 1 + 1 + 1,by omega,by omega,(cell_of_row _ _ 2 _ _ _ m10).trans rfl,(cell_of_row _ _ 0 _ _ _ m3).trans rfl⟩
    · exact ⟨w.heap.size + 1 + 1 + 1 + 1,by omega,by omega,(cell_of_row _ _ 3 _ _ _ m10).trans rfl,(cell_of_row _ _ 0 _ _ _ m4).trans rfl⟩
    · exact ⟨w.heap.size + 1 + 1 + 1 + 1 + 1,by omega,by omega,(cell_of_row _ _ 4 _ _ _ m10).trans rfl,(cell_of_row _ _ 0 _ _ _ m5).trans rfl⟩
    · exact ⟨w.heap.size + 1 + 1 + 1 + 1 + 1 + 1,by omega,by omega,(cell_of_row _ _ 5 _ _ _ m10).trans rfl,(cell_of_row _ _ 0 _ _ _ m6).trans rfl⟩
    · exact ⟨w.heap.size + 1 + 1 + 1 + 1 + 1 + 1 + 1,by omega,by omega,(cell_of_row _ _ 6 _ _ _ m10).trans rfl,(cell_of_row _ _ 0 _ _ _ m7).trans rfl⟩
    · exact ⟨w.heap.size + 1 + 1 + 1 + 1 + 1 + 1 + 1 + 1,by omega,by omega,(cell_of_row _ _ 7 _ _ _ m10).trans rfl,(cell_of_row _ _ 0 _ _ _ m8).trans rfl⟩
    · exact ⟨w.heap.size + 1 + 1 + 1 + 1 + 1 + 1 + 1 + 1 + 1,by omega,by omega,(cell_of_row _ _ 8 _ _ _ m10).trans rfl,(cell_of_row _ _ 0 _ _ _ m9).trans rfl⟩
  · exact (below_then (below_then (below_then (below_then (below_then (below_then (below_then (below_then (below_then (below_then a0 a1) a2) a3) a4) a5) a6) a7) a8) a9) a10)
theorem row_cell1 {w : World} {b : Nat} {x : Int} (h : w.cell? ⟨b,0,none⟩ = some (.int .i64 x)) : Row w (some ⟨b,0,none⟩) 1 1 [x]:=by
  refine ⟨rfl,Nat.le_refl _,by decide,.inr ⟨b,0,rfl,World.block_lt_of_cell? _ _ h,fun j v hv => ?_⟩⟩
  match j,hv with
  | 0,hv => rw [← Option.some.inj (show some (.int .i64 x) = some v from hv)]; exact h
  | j + 1,hv => simp [ints] at hv
structure StAt (a : Addr) (s k : Int) (z i b0 gN gW : Nat) (w0 wr : World) (j : VmK) : Prop where
  box : VBox wr b0 j
  vm : IsVm wr j (stL9 (stM s k z i) [] [])
  sc : Sc j freK
  fr : Free j b0
  gl : Glob a wr
  bel : Below w0.heap.size w0 wr
  rows : RowsAt b0 gN gW wr
theorem StAt.keep {a : Addr} {s k : Int} {z i b0 gN gW : Nat} {w0 wr u : World} {j : VmK} (h : StAt a s k z i b0 gN gW w0 wr j) (b : Below wr.heap.size wr u) : StAt a s k z i b0 gN gW w0 u j:=⟨h.box.keep b,h.vm.keep b,h.sc,h.fr,h.gl.keep b,below_then h.bel b,h.rows.keep b⟩
theorem StAt.skip {a : Addr} {s k : Int} {z i b0 gN gW : Nat} {w0 wr : World} {j : VmK} (h : StAt a s k z i b0 gN gW w0 wr j) (hz : i = z) : StAt a s k z (i + 1) b0 gN gW w0 wr j:=⟨h.box,by rw [show stM s k z (i + 1) = stM s k z i from if_pos hz]; exact h.vm,h.sc,h.fr,h.gl,h.bel,h.rows⟩
theorem StAt.puts {a : Addr} {s k : Int} {z i b0 gN gW : Nat} {w0 wr u : World} {j j' : VmK} (h : StAt a s k z i b0 gN gW w0 wr j) (hz : i ≠ z) (hb : w0.heap.size ≤ b0) (h1 : VBox u b0 j') (h2 : IsVm u j' (stL9 (storeF (stM s k z i) (1400 + 8 * (i : Int)) (sxW i)) [] [])) (h3 : Sc j' j) (h4 : Free j' b0) (h5 : Glob a u) (h6 : Below b0 wr u) (h7 : Ex (fun g => g = b0) wr u) : StAt a s k z (i + 1) b0 gN gW w0 u j' :=
  ⟨h1,by rw [show stM s k z (i + 1) = storeF (stM s k z i) (1400 + 8 * (i : Int)) (sxW i) from if_neg hz]; exact h2,h3.trans h.sc,h4,h5,h.bel.trans (h6.mono hb),h.rows.ex h7⟩
end Go.Proofs.YtcmldhjicjmmgaaGreatDoor
