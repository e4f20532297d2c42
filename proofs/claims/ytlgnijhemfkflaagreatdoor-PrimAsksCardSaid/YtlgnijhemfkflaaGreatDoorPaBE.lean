/- Part 31. -/
import Derived.Test.YtlgnijhemfkflaaGreatDoorPaBD
set_option linter.unusedVariables false
set_option linter.unusedSimpArgs false
set_option maxRecDepth 100000
set_option maxHeartbeats 4000000

namespace Go.Proofs.YtlgnijhemfkflaaGreatDoor
open Go.RowKit


theorem stateCode_any (A P : Option Addr) (n c Kp d : Nat) (m : PM) (b s : Int) (w : World) (hm : MemIn w A P n c Kp d m) : Calls Tryz.prog 161 #[.agg #[.slice A n c,.slice P Kp d],.int .i64 b,.int .i64 s] w fun e w' => e = .returned (.int .i64 (if cellC n (wrap64 (b + 8)) = 0 then (if 0 ≤ s ∧ s < fetchF m (wrap64 (b + 8)) then 0 else -24) else cellC n (wrap64 (b + 8)))) ∧ Below w.heap.size w w':=by
  have HF:=zqh fun w h => fetch_at A P n c Kp d m (wrap64 (b + 8)) w (zqh h) (by have:=hm.n2; omega)
  have M0:=zqh hm.is;generalize fetchF m (wrap64 (b + 8)) = x at HF ⊢;generalize cellC n (wrap64 (b + 8)) = C at HF ⊢;clear hm
  by_cases h0 : C = 0
  · subst h0
    rw [if_pos rfl]
    by_cases h1 : 0 ≤ s
    · by_cases h2 : s < x
      · rw [if_pos ⟨h1,h2⟩]
        have g1 : decide (s < 0) = false:=by simpa using h1
        have g2 : decide (x ≤ s) = false:=by simpa using h2
        go_enter Tryz.func161,Tryz.ntmps161;go_upto_region 1 with fail
        generalize hw1 : World.alloc _ _ = w1;have kb : Below w.heap.size w w1:=by rw [← hw1]; exact al_one _ _
        have X1 : Hid (Box w1 w.heap.size (.slice A n c) (.slice P Kp d) 27):=by show Box _ _ _ _ _; rw [← hw1]; exact box_new _ _ _ _
        obtain ⟨q0,q1,_,_⟩:=X1.out.use;clear hw1;have B1:=zqh kb;clear kb;(go_wp2_with fail);refine (HF.out _ (M0.out.keep B1.out)).mono ?_;rintro e w2 ⟨rfl,bb⟩;have B2:=zqh (below_then B1.out bb);clear HF bb q0 q1;(go_wp2_with fail);go_ret;exact ⟨rfl,B2.out⟩
      · rw [if_neg (by omega)]
        have g1 : decide (s < 0) = false:=by simpa using h1
        have g2 : decide (x ≤ s) = true:=by simp; omega
        go_enter Tryz.func161,Tryz.ntmps161;go_upto_region 1 with fail
        generalize hw1 : World.alloc _ _ = w1;have kb : Below w.heap.size w w1:=by rw [← hw1]; exact al_one _ _
        have X1 : Hid (Box w1 w.heap.size (.slice A n c) (.slice P Kp d) 27):=by show Box _ _ _ _ _; rw [← hw1]; exact box_new _ _ _ _
        obtain ⟨q0,q1,_,_⟩:=X1.out.use;clear hw1;have B1:=zqh kb;clear kb;(go_wp2_with fail);refine (HF.out _ (M0.out.keep B1.out)).mono ?_;rintro e w2 ⟨rfl,bb⟩;have B2:=zqh (below_then B1.out bb);clear HF bb q0 q1;(go_wp2_with fail);go_ret;exact ⟨rfl,B2.out⟩
    · rw [if_neg (by omega)]
      have g1 : decide (s < 0) = true:=by simp; omega
      go_enter Tryz.func161,Tryz.ntmps161;go_upto_region 1 with fail
      generalize hw1 : World.alloc _ _ = w1;have kb : Below w.heap.size w w1:=by rw [← hw1]; exact al_one _ _
      have X1 : Hid (Box w1 w.heap.size (.slice A n c) (.slice P Kp d) 27):=by show Box _ _ _ _ _; rw [← hw1]; exact box_new _ _ _ _
      obtain ⟨q0,q1,_,_⟩:=X1.out.use;clear hw1;have B1:=zqh kb;clear kb;(go_wp2_with fail);refine (HF.out _ (M0.out.keep B1.out)).mono ?_;rintro e w2 ⟨rfl,bb⟩;have B2:=zqh (below_then B1.out bb);clear HF bb q0 q1;(go_wp2_with fail);go_ret;exact ⟨rfl,B2.out⟩
  · rw [if_neg h0]
    have hC2 : (C != 0) = true:=by simpa using h0
    go_enter Tryz.func161,Tryz.ntmps161;go_upto_region 1 with fail
    generalize hw1 : World.alloc _ _ = w1;have kb : Below w.heap.size w w1:=by rw [← hw1]; exact al_one _ _
    have X1 : Hid (Box w1 w.heap.size (.slice A n c) (.slice P Kp d) 27):=by show Box _ _ _ _ _; rw [← hw1]; exact box_new _ _ _ _
    obtain ⟨q0,q1,_,_⟩:=X1.out.use;clear hw1;have B1:=zqh kb;clear kb;(go_wp2_with fail);refine (HF.out _ (M0.out.keep B1.out)).mono ?_;rintro e w2 ⟨rfl,bb⟩;have B2:=zqh (below_then B1.out bb);clear HF bb q0 q1;(go_wp2_with fail);go_ret;exact ⟨rfl,B2.out⟩
theorem state1 (A P : Option Addr) (n c Kp d0 : Nat) (m : PM) (A1 : Option Addr) (c1 : Nat) (x : List Int) (w : World) (hm : MemIn w A P n c Kp d0 m) (hx : Takes w 2 A1 c1 x) :
    Calls Tryz.prog 160 #[.agg #[.slice A n c,.slice P Kp d0],.slice A1 2 c1] w (MemOut P Kp (storeF m (x.getD 1 0) (x.getD 0 0)) (stateC m (x.getD 1 0) (x.getD 0 0) (x.getD 1 0)) w):=by
  obtain ⟨a,b,g,o,rfl,rfl,hg,c0,c1,ha,hb⟩:=hx.two;show Calls _ _ _ _ (MemOut P Kp (storeF m b a) (stateC m b a b) w);have HM:=zqh hm;have HC:=zqh fun w (hm : MemIn w A P n c Kp d0 m) => stateCode_any A P n c Kp d0 m b a w hm
  have HS:=zqh fun w (hm : MemIn w A P n c Kp d0 m) => store_atp A P n c Kp d0 m b a w (zqh hm.is) (by have:=hm.n2; omega) (by have:=hm.k1; omega)
  obtain ⟨D,hD⟩ : ∃ D,stateC m b a b = D:=⟨_,rfl⟩;have hDD : D = if (if cellC n (wrap64 (b + 8)) = 0 then (if 0 ≤ a ∧ a < fetchF m (wrap64 (b + 8)) then 0 else -24) else cellC n (wrap64 (b + 8))) = 0 then cellC n b else (if cellC n (wrap64 (b + 8)) = 0 then (if 0 ≤ a ∧ a < fetchF m (wrap64 (b + 8)) then 0 else -24) else cellC n (wrap64 (b + 8))):=by
    rw [← hD];unfold stateC;rw [hm.is.len1]
    by_cases e1 : cellC n (wrap64 (b + 8)) = 0
    · rw [if_pos e1,if_pos e1]
      by_cases e2 : 0 ≤ a ∧ a < fetchF m (wrap64 (b + 8))
      · rw [if_pos e2,if_pos e2,if_pos rfl]
      · rw [if_neg e2,if_neg e2,if_neg (by decide)]
    · rw [if_neg e1,if_neg e1,if_neg e1]
  rw [hD];generalize (if cellC n (wrap64 (b + 8)) = 0 then (if 0 ≤ a ∧ a < fetchF m (wrap64 (b + 8)) then 0 else -24) else cellC n (wrap64 (b + 8))) = C at HC hDD;generalize cellC n b = C2 at HS hDD;generalize storeF m b a = M at HS ⊢;clear hm hx hD
  by_cases h0 : C = 0
  · rw [if_pos h0] at hDD
    subst h0 hDD;have C0:=zqh c0;have C1:=zqh c1;clear c0 c1;go_enter Tryz.func160,Tryz.ntmps160;go_upto_region 1 with fail
    generalize hw1 : World.alloc (World.alloc _ _) _ = w1;have kb : Below w.heap.size w w1:=by rw [← hw1]; exact al_two _ _ _
    have kx : Box w1 w.heap.size (.slice A n c) (.slice P Kp d0) 27:=by rw [← hw1]; exact (box_two w _ _ _ _ _ _).1
    have kz : Box w1 (w.heap.size + 1) (.slice none 0 0) (.slice none 0 0) 27:=by rw [← hw1]; exact (box_two w _ _ _ _ _ _).2
    have KS : Hid (w1.heap.size = w.heap.size + 1 + 1):=by show _ = _; rw [← hw1]; simp
    clear hw1;have X1:=zqh kx;have Z1:=zqh kz;have B1:=zqh kb;clear kb kx kz;refine wp_region_noPanic ?_;refine wp_region_held_drew (S:=fun a => Below w.heap.size w a) (by kernel_rfl) ?_ (fun hHeld => ?_)
    · exact B1.out.drew
    refine zqt (i:=0) (v:=?v0a1) ?y0a1 ?r0a1
    case y0a1 =>
      intro u hSu;go_simp;(try with_reducible rfl)
    (try simp only [zq,Act.put]);refine zqt (i:=1) (v:=?v1a1) ?y1a1 ?r1a1
    case y1a1 =>
      intro u hSu;go_simp;(try with_reducible rfl)
    (try simp only [zq,Act.put]);refine zqt (i:=2) (v:=?v2a1) ?y2a1 ?r2a1
    case y2a1 =>
      intro u hSu;(try dsimp only at hSu);have q0:=(hSu.cell (p:=⟨g,o,none⟩) hg).trans C0.out;go_simp;(try with_reducible rfl)
    (try simp only [zq,Act.put]);refine zqt (i:=3) (v:=?v3a1) ?y3a1 ?r3a1
    case y3a1 =>
      intro u hSu;go_simp;(try with_reducible rfl)
    (try simp only [zq,Act.put]);refine zqt (i:=4) (v:=?v4a1) ?y4a1 ?r4a1
    case y4a1 =>
      intro u hSu;go_simp;(try with_reducible rfl)
    (try simp only [zq,Act.put]);refine zqt (i:=5) (v:=?v5a1) ?y5a1 ?r5a1
    case y5a1 =>
      intro u hSu;(try dsimp only at hSu);have q1:=(hSu.cell (p:=⟨g,o + 1,none⟩) hg).trans C1.out;go_simp;(try with_reducible rfl)
    (try simp only [zq,Act.put]);refine zqt (i:=6) (v:=?v6a1) ?y6a1 ?r6a1
    case y6a1 =>
      intro u hSu;go_simp;(try with_reducible rfl)
    (try simp only [zq,Act.put]);refine zqt (i:=7) (v:=?v7a1) ?y7a1 ?r7a1
    case y7a1 =>
      intro u hSu;go_simp;(try with_reducible rfl)
    (try simp only [zq,Act.put]);refine wpAnyH_done (by kernel_rfl) ?_ _;refine NoPanic.normal ?_;have Bd:=zqh hHeld;have Xd:=zqh (X1.out.keep (Below.refl _ _).drew);have Zd:=zqh (Z1.out.keep (Below.refl _ _).drew);generalize w1.drew = wd at *;clear hHeld;obtain ⟨q0,q1,_,_⟩:=Xd.out.use;(go_wp2_with fail);refine (HC.out _ (HM.out.keep Bd.out)).mono ?_;rintro e w2 ⟨rfl,bb⟩;have X2:=zqh (Xd.out.keep bb);have Z2:=zqh (Zd.out.keep bb);have B2:=zqh (below_then Bd.out bb);obtain ⟨Q0,Q1,_,_⟩:=X2.out.use;clear HC bb q0 q1 X1 Z1 B1 Xd Zd Bd;(go_wp2_with fail);refine (HS.out _ (HM.out.keep B2.out)).mono ?_;rintro e w3 ⟨A2,n2,c2,P2,K2,d2,rfl,hr,bb⟩;have Z3:=zqh (Z2.out.keep bb);have B3:=zqh (below_then B2.out bb);have HR:=zqh (hr.le B2.out.size);obtain ⟨z0,z1,z2,z3⟩:=Z3.out.use;clear HS bb hr Q0 Q1;(go_wp2_with fail);refine bodyPost_ret (v:=.tuple #[.agg #[.slice A2 n2 c2,.slice P2 K2 d2],.int .i64 D]) ?_ rfl ?_
    · obtain ⟨r0,r1⟩:=Z3.out.got (.slice A2 n2 c2) (.slice P2 K2 d2)
      simp [results,Tryz.results160,go_sem,r0,r1]
    · exact ⟨_,_,_,_,_,_,rfl,fun _ => HR.out.row2 (by omega) Z3.out (row_put _ _ _ _),(B3.out.setCell (by simp) _).setCell (by simp) _⟩
  · rw [if_neg h0] at hDD
    subst hDD;have hC2 : (D != 0) = true:=by simpa using h0
    clear HS;have C0:=zqh c0;have C1:=zqh c1;clear c0 c1;go_enter Tryz.func160,Tryz.ntmps160;go_upto_region 1 with fail
    generalize hw1 : World.alloc (World.alloc _ _) _ = w1;have kb : Below w.heap.size w w1:=by rw [← hw1]; exact al_two _ _ _
    have kx : Box w1 w.heap.size (.slice A n c) (.slice P Kp d0) 27:=by rw [← hw1]; exact (box_two w _ _ _ _ _ _).1
    have kz : Box w1 (w.heap.size + 1) (.slice none 0 0) (.slice none 0 0) 27:=by rw [← hw1]; exact (box_two w _ _ _ _ _ _).2
    have KS : Hid (w1.heap.size = w.heap.size + 1 + 1):=by show _ = _; rw [← hw1]; simp
    clear hw1;have X1:=zqh kx;have Z1:=zqh kz;have B1:=zqh kb;clear kb kx kz;refine wp_region_noPanic ?_;refine wp_region_held_drew (S:=fun a => Below w.heap.size w a) (by kernel_rfl) ?_ (fun hHeld => ?_)
    · exact B1.out.drew
    refine zqt (i:=0) (v:=?v0a2) ?y0a2 ?r0a2
    case y0a2 =>
      intro u hSu;go_simp;(try with_reducible rfl)
    (try simp only [zq,Act.put]);refine zqt (i:=1) (v:=?v1a2) ?y1a2 ?r1a2
    case y1a2 =>
      intro u hSu;go_simp;(try with_reducible rfl)
    (try simp only [zq,Act.put]);refine zqt (i:=2) (v:=?v2a2) ?y2a2 ?r2a2
    case y2a2 =>
      intro u hSu;(try dsimp only at hSu);have q0:=(hSu.cell (p:=⟨g,o,none⟩) hg).trans C0.out;go_simp;(try with_reducible rfl)
    (try simp only [zq,Act.put]);refine zqt (i:=3) (v:=?v3a2) ?y3a2 ?r3a2
    case y3a2 =>
      intro u hSu;go_simp;(try with_reducible rfl)
    (try simp only [zq,Act.put]);refine zqt (i:=4) (v:=?v4a2) ?y4a2 ?r4a2
    case y4a2 =>
      intro u hSu;go_simp;(try with_reducible rfl)
    (try simp only [zq,Act.put]);refine zqt (i:=5) (v:=?v5a2) ?y5a2 ?r5a2
    case y5a2 =>
      intro u hSu;(try dsimp only at hSu);have q1:=(hSu.cell (p:=⟨g,o + 1,none⟩) hg).trans C1.out;go_simp;(try with_reducible rfl)
    (try simp only [zq,Act.put]);refine zqt (i:=6) (v:=?v6a2) ?y6a2 ?r6a2
    case y6a2 =>
      intro u hSu;go_simp;(try with_reducible rfl)
    (try simp only [zq,Act.put]);refine zqt (i:=7) (v:=?v7a2) ?y7a2 ?r7a2
    case y7a2 =>
      intro u hSu;go_simp;(try with_reducible rfl)
    (try simp only [zq,Act.put]);refine wpAnyH_done (by kernel_rfl) ?_ _;refine NoPanic.normal ?_;have Bd:=zqh hHeld;have Xd:=zqh (X1.out.keep (Below.refl _ _).drew);have Zd:=zqh (Z1.out.keep (Below.refl _ _).drew);generalize w1.drew = wd at *;clear hHeld;obtain ⟨q0,q1,_,_⟩:=Xd.out.use;(go_wp2_with fail);refine (HC.out _ (HM.out.keep Bd.out)).mono ?_;rintro e w2 ⟨rfl,bb⟩;have X2:=zqh (Xd.out.keep bb);have Z2:=zqh (Zd.out.keep bb);have B2:=zqh (below_then Bd.out bb);obtain ⟨Q0,Q1,_,_⟩:=X2.out.use;clear HC bb q0 q1 X1 Z1 B1 Xd Zd Bd;obtain ⟨z0,z1,z2,z3⟩:=Z2.out.use;(go_wp2_with fail);refine bodyPost_ret (v:=.tuple #[.agg #[.slice A n c,.slice P Kp d0],.int .i64 D]) ?_ rfl ?_
    · obtain ⟨r0,r1⟩:=Z2.out.got (.slice A n c) (.slice P Kp d0)
      simp [results,Tryz.results160,go_sem,r0,r1]
    · exact ⟨_,_,_,_,_,_,rfl,fun hz => absurd hz h0,(B2.out.setCell (by simp) _).setCell (by simp) _⟩
theorem state2 (A P : Option Addr) (n c Kp d0 : Nat) (m : PM) (A1 : Option Addr) (c1 : Nat) (x : List Int) (w : World) (hm : MemIn w A P n c Kp d0 m) (hx : Takes w 3 A1 c1 x) :
    Calls Tryz.prog 162 #[.agg #[.slice A n c,.slice P Kp d0],.slice A1 3 c1] w (MemOut P Kp (storeF m (stateP (x.getD 2 0) (x.getD 1 0)) (x.getD 0 0)) (stateC m (x.getD 2 0) (x.getD 1 0) (stateP (x.getD 2 0) (x.getD 1 0))) w):=by
  obtain ⟨a,b,d,g,o,rfl,rfl,hg,c0,c1,c2,ha,hb,hd⟩:=hx.three;show Calls _ _ _ _ (MemOut P Kp (storeF m (stateP d b) a) (stateC m d b (stateP d b)) w);have HM:=zqh hm;have HC:=zqh fun w (hm : MemIn w A P n c Kp d0 m) => stateCode_any A P n c Kp d0 m d b w hm
  have HS:=zqh fun w (hm : MemIn w A P n c Kp d0 m) => store_atp A P n c Kp d0 m (stateP d b) a w (zqh hm.is) (by have:=hm.n2; omega) (by have:=hm.k1; omega)
  obtain ⟨D,hD⟩ : ∃ D,stateC m d b (stateP d b) = D:=⟨_,rfl⟩;have hDD : D = if (if cellC n (wrap64 (d + 8)) = 0 then (if 0 ≤ b ∧ b < fetchF m (wrap64 (d + 8)) then 0 else -24) else cellC n (wrap64 (d + 8))) = 0 then cellC n (stateP d b) else (if cellC n (wrap64 (d + 8)) = 0 then (if 0 ≤ b ∧ b < fetchF m (wrap64 (d + 8)) then 0 else -24) else cellC n (wrap64 (d + 8))):=by
    rw [← hD];unfold stateC;rw [hm.is.len1]
    by_cases e1 : cellC n (wrap64 (d + 8)) = 0
    · rw [if_pos e1,if_pos e1]
      by_cases e2 : 0 ≤ b ∧ b < fetchF m (wrap64 (d + 8))
      · rw [if_pos e2,if_pos e2,if_pos rfl]
      · rw [if_neg e2,if_neg e2,if_neg (by decide)]
    · rw [if_neg e1,if_neg e1,if_neg e1]
  rw [hD];generalize (if cellC n (wrap64 (d + 8)) = 0 then (if 0 ≤ b ∧ b < fetchF m (wrap64 (d + 8)) then 0 else -24) else cellC n (wrap64 (d + 8))) = C at HC hDD;generalize cellC n (stateP d b) = C2 at HS hDD;generalize storeF m (stateP d b) a = M at HS ⊢;clear hm hx hD
  by_cases h0 : C = 0
  · rw [if_pos h0] at hDD
    subst h0 hDD;have C0:=zqh c0;have C1:=zqh c1;have C2:=zqh c2;clear c0 c1 c2;go_enter Tryz.func162,Tryz.ntmps162;go_upto_region 1 with fail
    generalize hw1 : World.alloc (World.alloc _ _) _ = w1;have kb : Below w.heap.size w w1:=by rw [← hw1]; exact al_two _ _ _
    have kx : Box w1 w.heap.size (.slice A n c) (.slice P Kp d0) 27:=by rw [← hw1]; exact (box_two w _ _ _ _ _ _).1
    have kz : Box w1 (w.heap.size + 1) (.slice none 0 0) (.slice none 0 0) 27:=by rw [← hw1]; exact (box_two w _ _ _ _ _ _).2
    have KS : Hid (w1.heap.size = w.heap.size + 1 + 1):=by show _ = _; rw [← hw1]; simp
    clear hw1;have X1:=zqh kx;have Z1:=zqh kz;have B1:=zqh kb;clear kb kx kz;refine wp_region_noPanic ?_;refine wp_region_held_drew (S:=fun a => Below w.heap.size w a) (by kernel_rfl) ?_ (fun hHeld => ?_)
    · exact B1.out.drew
    refine zqt (i:=0) (v:=?v0a3) ?y0a3 ?r0a3
    case y0a3 =>
      intro u hSu;go_simp;(try with_reducible rfl)
    (try simp only [zq,Act.put]);refine zqt (i:=1) (v:=?v1a3) ?y1a3 ?r1a3
    case y1a3 =>
      intro u hSu;go_simp;(try with_reducible rfl)
    (try simp only [zq,Act.put]);refine zqt (i:=2) (v:=?v2a3) ?y2a3 ?r2a3
    case y2a3 =>
      intro u hSu;(try dsimp only at hSu);have q0:=(hSu.cell (p:=⟨g,o,none⟩) hg).trans C0.out;go_simp;(try with_reducible rfl)
    (try simp only [zq,Act.put]);refine zqt (i:=3) (v:=?v3a3) ?y3a3 ?r3a3
    case y3a3 =>
      intro u hSu;go_simp;(try with_reducible rfl)
    (try simp only [zq,Act.put]);refine zqt (i:=4) (v:=?v4a3) ?y4a3 ?r4a3
    case y4a3 =>
      intro u hSu;go_simp;(try with_reducible rfl)
    (try simp only [zq,Act.put]);refine zqt (i:=5) (v:=?v5a3) ?y5a3 ?r5a3
    case y5a3 =>
      intro u hSu;(try dsimp only at hSu);have q1:=(hSu.cell (p:=⟨g,o + 1,none⟩) hg).trans C1.out;go_simp;(try with_reducible rfl)
    (try simp only [zq,Act.put]);refine zqt (i:=6) (v:=?v6a3) ?y6a3 ?r6a3
    case y6a3 =>
      intro u hSu;go_simp;(try with_reducible rfl)
    (try simp only [zq,Act.put]);refine zqt (i:=7) (v:=?v7a3) ?y7a3 ?r7a3
    case y7a3 =>
      intro u hSu;go_simp;(try with_reducible rfl)
    (try simp only [zq,Act.put]);refine zqt (i:=8) (v:=?v8a3) ?y8a3 ?r8a3
    case y8a3 =>
      intro u hSu;(try dsimp only at hSu);have q2:=(hSu.cell (p:=⟨g,o + 2,none⟩) hg).trans C2.out;go_simp;(try with_reducible rfl)
    (try simp only [zq,Act.put]);refine zqt (i:=9) (v:=?v9a3) ?y9a3 ?r9a3
    case y9a3 =>
      intro u hSu;go_simp;(try with_reducible rfl)
    (try simp only [zq,Act.put]);refine zqt (i:=10) (v:=?v10a3) ?y10a3 ?r10a3
    case y10a3 =>
      intro u hSu;go_simp;(try with_reducible rfl)
    (try simp only [zq,Act.put]);refine zqt (i:=11) (v:=?v11a3) ?y11a3 ?r11a3
    case y11a3 =>
      intro u hSu;go_simp;(try with_reducible rfl)
    (try simp only [zq,Act.put]);refine wpAnyH_done (by kernel_rfl) ?_ _;refine NoPanic.normal ?_;have Bd:=zqh hHeld;have Xd:=zqh (X1.out.keep (Below.refl _ _).drew);have Zd:=zqh (Z1.out.keep (Below.refl _ _).drew);generalize w1.drew = wd at *;clear hHeld;obtain ⟨q0,q1,_,_⟩:=Xd.out.use;(go_wp2_with fail);refine (HC.out _ (HM.out.keep Bd.out)).mono ?_;rintro e w2 ⟨rfl,bb⟩;have X2:=zqh (Xd.out.keep bb);have Z2:=zqh (Zd.out.keep bb);have B2:=zqh (below_then Bd.out bb);obtain ⟨Q0,Q1,_,_⟩:=X2.out.use;clear HC bb q0 q1 X1 Z1 B1 Xd Zd Bd;(go_wp2_with fail);refine (HS.out _ (HM.out.keep B2.out)).mono ?_;rintro e w3 ⟨A2,n2,c2,P2,K2,d2,rfl,hr,bb⟩;have Z3:=zqh (Z2.out.keep bb);have B3:=zqh (below_then B2.out bb);have HR:=zqh (hr.le B2.out.size);obtain ⟨z0,z1,z2,z3⟩:=Z3.out.use;clear HS bb hr Q0 Q1;(go_wp2_with fail);refine bodyPost_ret (v:=.tuple #[.agg #[.slice A2 n2 c2,.slice P2 K2 d2],.int .i64 D]) ?_ rfl ?_
    · obtain ⟨r0,r1⟩:=Z3.out.got (.slice A2 n2 c2) (.slice P2 K2 d2)
      simp [results,Tryz.results162,go_sem,r0,r1]
    · exact ⟨_,_,_,_,_,_,rfl,fun _ => HR.out.row2 (by omega) Z3.out (row_put _ _ _ _),(B3.out.setCell (by simp) _).setCell (by simp) _⟩
  · rw [if_neg h0] at hDD
    subst hDD;have hC2 : (D != 0) = true:=by simpa using h0
    clear HS;have C0:=zqh c0;have C1:=zqh c1;have C2:=zqh c2;clear c0 c1 c2;go_enter Tryz.func162,Tryz.ntmps162;go_upto_region 1 with fail
    generalize hw1 : World.alloc (World.alloc _ _) _ = w1;have kb : Below w.heap.size w w1:=by rw [← hw1]; exact al_two _ _ _
    have kx : Box w1 w.heap.size (.slice A n c) (.slice P Kp d0) 27:=by rw [← hw1]; exact (box_two w _ _ _ _ _ _).1
    have kz : Box w1 (w.heap.size + 1) (.slice none 0 0) (.slice none 0 0) 27:=by rw [← hw1]; exact (box_two w _ _ _ _ _ _).2
    have KS : Hid (w1.heap.size = w.heap.size + 1 + 1):=by show _ = _; rw [← hw1]; simp
    clear hw1;have X1:=zqh kx;have Z1:=zqh kz;have B1:=zqh kb;clear kb kx kz;refine wp_region_noPanic ?_;refine wp_region_held_drew (S:=fun a => Below w.heap.size w a) (by kernel_rfl) ?_ (fun hHeld => ?_)
    · exact B1.out.drew
    refine zqt (i:=0) (v:=?v0a4) ?y0a4 ?r0a4
    case y0a4 =>
      intro u hSu;go_simp;(try with_reducible rfl)
    (try simp only [zq,Act.put]);refine zqt (i:=1) (v:=?v1a4) ?y1a4 ?r1a4
    case y1a4 =>
      intro u hSu;go_simp;(try with_reducible rfl)
    (try simp only [zq,Act.put]);refine zqt (i:=2) (v:=?v2a4) ?y2a4 ?r2a4
    case y2a4 =>
      intro u hSu;(try dsimp only at hSu);have q0:=(hSu.cell (p:=⟨g,o,none⟩) hg).trans C0.out;go_simp;(try with_reducible rfl)
    (try simp only [zq,Act.put]);refine zqt (i:=3) (v:=?v3a4) ?y3a4 ?r3a4
    case y3a4 =>
      intro u hSu;go_simp;(try with_reducible rfl)
    (try simp only [zq,Act.put]);refine zqt (i:=4) (v:=?v4a4) ?y4a4 ?r4a4
    case y4a4 =>
      intro u hSu;go_simp;(try with_reducible rfl)
    (try simp only [zq,Act.put]);refine zqt (i:=5) (v:=?v5a4) ?y5a4 ?r5a4
    case y5a4 =>
      intro u hSu;(try dsimp only at hSu);have q1:=(hSu.cell (p:=⟨g,o + 1,none⟩) hg).trans C1.out;go_simp;(try with_reducible rfl)
    (try simp only [zq,Act.put]);refine zqt (i:=6) (v:=?v6a4) ?y6a4 ?r6a4
    case y6a4 =>
      intro u hSu;go_simp;(try with_reducible rfl)
    (try simp only [zq,Act.put]);refine zqt (i:=7) (v:=?v7a4) ?y7a4 ?r7a4
    case y7a4 =>
      intro u hSu;go_simp;(try with_reducible rfl)
    (try simp only [zq,Act.put]);refine zqt (i:=8) (v:=?v8a4) ?y8a4 ?r8a4
    case y8a4 =>
      intro u hSu;(try dsimp only at hSu);have q2:=(hSu.cell (p:=⟨g,o + 2,none⟩) hg).trans C2.out;go_simp;(try with_reducible rfl)
    (try simp only [zq,Act.put]);refine zqt (i:=9) (v:=?v9a4) ?y9a4 ?r9a4
    case y9a4 =>
      intro u hSu;go_simp;(try with_reducible rfl)
    (try simp only [zq,Act.put]);refine zqt (i:=10) (v:=?v10a4) ?y10a4 ?r10a4
    case y10a4 =>
      intro u hSu;go_simp;(try with_reducible rfl)
    (try simp only [zq,Act.put]);refine zqt (i:=11) (v:=?v11a4) ?y11a4 ?r11a4
    case y11a4 =>
      intro u hSu;go_simp;(try with_reducible rfl)
    (try simp only [zq,Act.put]);refine wpAnyH_done (by kernel_rfl) ?_ _;refine NoPanic.normal ?_;have Bd:=zqh hHeld;have Xd:=zqh (X1.out.keep (Below.refl _ _).drew);have Zd:=zqh (Z1.out.keep (Below.refl _ _).drew);generalize w1.drew = wd at *;clear hHeld;obtain ⟨q0,q1,_,_⟩:=Xd.out.use;(go_wp2_with fail);refine (HC.out _ (HM.out.keep Bd.out)).mono ?_;rintro e w2 ⟨rfl,bb⟩;have X2:=zqh (Xd.out.keep bb);have Z2:=zqh (Zd.out.keep bb);have B2:=zqh (below_then Bd.out bb);obtain ⟨Q0,Q1,_,_⟩:=X2.out.use;clear HC bb q0 q1 X1 Z1 B1 Xd Zd Bd;obtain ⟨z0,z1,z2,z3⟩:=Z2.out.use;(go_wp2_with fail);refine bodyPost_ret (v:=.tuple #[.agg #[.slice A n c,.slice P Kp d0],.int .i64 D]) ?_ rfl ?_
    · obtain ⟨r0,r1⟩:=Z2.out.got (.slice A n c) (.slice P Kp d0)
      simp [results,Tryz.results162,go_sem,r0,r1]
    · exact ⟨_,_,_,_,_,_,rfl,fun hz => absurd hz h0,(B2.out.setCell (by simp) _).setCell (by simp) _⟩
theorem based1 (W : World) (p : Addr) (v : Int) (hp : W.cell? p = some (.int .i64 v)) (hpl : p.block < W.heap.size) (A P : Option Addr) (n c Kp d : Nat) (m : PM) (A1 : Option Addr) (c1 : Nat) (x : List Int) (w : World) (b0 : Go.Proofs.YtlgnijhemfkflaaGreatDoor.Kp W w) (hm : MemIn w A P n c Kp d m) :
    Calls Tryz.prog 230 #[.agg #[.slice A n c,.slice P Kp d],.slice A1 0 c1,.pointer (some p)] w (MemOut P Kp (storeF m 0 v) (cellC m.1.length 0) w):=by
  rw [hm.is.len1];have HM:=zqh hm.is;have HS:=zqh fun w h => store_atp A P n c Kp d m 0 v w (zqh h) (by have:=hm.n2; omega) (by have:=hm.k1; omega)
  generalize cellC n 0 = C at HS ⊢;generalize storeF m 0 v = M at HS ⊢;have hp0:=(b0.cell hpl).trans hp;have hl0:=Nat.lt_of_lt_of_le hpl b0.size;clear hm;go_enter Tryz.func230,Tryz.ntmps230;go_upto_region 1 with fail
  generalize hw1 : World.alloc (World.alloc _ _) _ = w1;have kb : Below w.heap.size w w1:=by rw [← hw1]; exact al_two _ _ _
  have kx : Box w1 w.heap.size (.slice A n c) (.slice P Kp d) 27:=by rw [← hw1]; exact (box_two w _ _ _ _ _ _).1
  have kz : Box w1 (w.heap.size + 1) (.slice none 0 0) (.slice none 0 0) 27:=by rw [← hw1]; exact (box_two w _ _ _ _ _ _).2
  have KS : Hid (w1.heap.size = w.heap.size + 1 + 1):=by show _ = _; rw [← hw1]; simp
  clear hw1;have X1:=zqh kx;have Z1:=zqh kz;have B1:=zqh kb;obtain ⟨q0,q1,_,_⟩:=kx.use;have hp1:=(kb.cell hl0).trans hp0;clear kb kx kz hp0;(go_wp2_with fail);refine (HS.out _ (HM.out.keep B1.out)).mono ?_;rintro e w3 ⟨A2,n2,c2,P2,K2,d2,rfl,hr,bb⟩;have Z3:=zqh (Z1.out.keep bb);have B3:=zqh (below_then B1.out bb);have HR:=zqh (hr.le B1.out.size);obtain ⟨z0,z1,z2,z3⟩:=Z3.out.use;clear HS bb hr q0 q1;(go_wp2_with fail);refine bodyPost_ret (v:=.tuple #[.agg #[.slice A2 n2 c2,.slice P2 K2 d2],.int .i64 C]) ?_ rfl ?_
  · obtain ⟨r0,r1⟩:=Z3.out.got (.slice A2 n2 c2) (.slice P2 K2 d2)
    simp [results,Tryz.results230,go_sem,r0,r1]
  · exact ⟨_,_,_,_,_,_,rfl,fun _ => HR.out.row2 (by omega) Z3.out (row_put _ _ _ _),(B3.out.setCell (by simp) _).setCell (by simp) _⟩
end Go.Proofs.YtlgnijhemfkflaaGreatDoor

namespace Go.Proofs.YtlgnijhemfkflaaGreatDoor
open Go.RowKit


theorem here1 (k : VmK) (w : World) : Calls Tryz.prog 120 #[vmV k] w fun e w' => e = .returned (.int .i64 (k.here)) ∧ Below w.heap.size w w':=by
  go_enter Tryz.func120,Tryz.ntmps120;go_upto_region 1 with fail
  generalize hw1 : World.alloc _ _ = w1;have kb : Below w.heap.size w w1:=by rw [← hw1]; exact al_one _ _
  have kx : VBox w1 w.heap.size k:=by rw [← hw1]; exact vbox_new w k
  obtain ⟨p0,p1,p2,p3,p4,p5,p6,p7,p8,p9,p10,p11,p12,p13,p14,p15,p16,p17,p18,p19,p20,p21,p22⟩:=kx.use;clear p0 p1 p2 p3 p4 p5 p6 p8 p9 p10 p11 p12 p13 p14 p15 p16 p17 p18 p19 p20 p21 p22;clear hw1 kx;have B1:=zqh kb;clear kb;(go_wp2_with fail);go_ret;exact ⟨rfl,B1.out⟩
theorem arg1 (k : VmK) (w : World) : Calls Tryz.prog 157 #[vmV k] w fun e w' => e = .returned (.int .i64 (k.arg)) ∧ Below w.heap.size w w':=by
  go_enter Tryz.func157,Tryz.ntmps157;go_upto_region 1 with fail
  generalize hw1 : World.alloc _ _ = w1;have kb : Below w.heap.size w w1:=by rw [← hw1]; exact al_one _ _
  have kx : VBox w1 w.heap.size k:=by rw [← hw1]; exact vbox_new w k
  obtain ⟨p0,p1,p2,p3,p4,p5,p6,p7,p8,p9,p10,p11,p12,p13,p14,p15,p16,p17,p18,p19,p20,p21,p22⟩:=kx.use;clear p0 p1 p2 p3 p4 p5 p6 p7 p8 p9 p10 p11 p12 p13 p14 p15 p16 p17 p18 p20 p21 p22;clear hw1 kx;have B1:=zqh kb;clear kb;(go_wp2_with fail);go_ret;exact ⟨rfl,B1.out⟩
theorem self1 (k : VmK) (w : World) : Calls Tryz.prog 158 #[vmV k] w fun e w' => e = .returned (.int .i64 (k.self)) ∧ Below w.heap.size w w':=by
  go_enter Tryz.func158,Tryz.ntmps158;go_upto_region 1 with fail
  generalize hw1 : World.alloc _ _ = w1;have kb : Below w.heap.size w w1:=by rw [← hw1]; exact al_one _ _
  have kx : VBox w1 w.heap.size k:=by rw [← hw1]; exact vbox_new w k
  obtain ⟨p0,p1,p2,p3,p4,p5,p6,p7,p8,p9,p10,p11,p12,p13,p14,p15,p16,p17,p18,p19,p20,p21,p22⟩:=kx.use;clear p0 p1 p2 p3 p4 p5 p6 p7 p8 p9 p10 p11 p12 p13 p14 p15 p16 p17 p18 p19 p21 p22;clear hw1 kx;have B1:=zqh kb;clear kb;(go_wp2_with fail);go_ret;exact ⟨rfl,B1.out⟩
theorem now1 (k : VmK) (w : World) : Calls Tryz.prog 159 #[vmV k] w fun e w' => e = .returned (.int .i64 (k.now)) ∧ Below w.heap.size w w':=by
  go_enter Tryz.func159,Tryz.ntmps159;go_upto_region 1 with fail
  generalize hw1 : World.alloc _ _ = w1;have kb : Below w.heap.size w w1:=by rw [← hw1]; exact al_one _ _
  have kx : VBox w1 w.heap.size k:=by rw [← hw1]; exact vbox_new w k
  obtain ⟨p0,p1,p2,p3,p4,p5,p6,p7,p8,p9,p10,p11,p12,p13,p14,p15,p16,p17,p18,p19,p20,p21,p22⟩:=kx.use;clear p0 p1 p2 p3 p4 p5 p6 p7 p8 p9 p10 p11 p12 p13 p14 p15 p16 p17 p18 p19 p20 p22;clear hw1 kx;have B1:=zqh kb;clear kb;(go_wp2_with fail);go_ret;exact ⟨rfl,B1.out⟩
theorem known1 (W : World) (p : Addr) (v : Int) (hp : W.cell? p = some (.int .i64 v)) (hpl : p.block < W.heap.size) (k : VmK) (w : World) (b0 : Kp W w) : Calls Tryz.prog 229 #[vmV k,.pointer (some p)] w fun e w' => e = .returned (.int .i64 v) ∧ Below w.heap.size w w':=by
  have hp0:=(b0.cell hpl).trans hp;have hl0:=Nat.lt_of_lt_of_le hpl b0.size;go_enter Tryz.func229,Tryz.ntmps229;go_upto_region 1 with fail
  generalize hw1 : World.alloc _ _ = w1;have kb : Below w.heap.size w w1:=by rw [← hw1]; exact al_one _ _
  have hp1:=(kb.cell hl0).trans hp0;clear hw1 hp0;have B1:=zqh kb;clear kb;(go_wp2_with fail);go_ret;exact ⟨rfl,B1.out⟩
end Go.Proofs.YtlgnijhemfkflaaGreatDoor
