/- Part 30. -/
import Derived.Test.YtlgnijhemfkflaaGreatDoorPaBC
set_option linter.unusedVariables false
set_option linter.unusedSimpArgs false
set_option maxRecDepth 100000
set_option maxHeartbeats 4000000

namespace Go.Proofs.YtlgnijhemfkflaaGreatDoor
open Go.RowKit


theorem cell1 (A P : Option Addr) (n c Kp d0 : Nat) (m : PM) (A1 : Option Addr) (c1 : Nat) (x : List Int) (w : World) (hm : MemIn w A P n c Kp d0 m) (hx : Takes w 2 A1 c1 x) :
    Calls Tryz.prog 103 #[.agg #[.slice A n c,.slice P Kp d0],.slice A1 2 c1] w (MemOut P Kp (storeF m (x.getD 1 0) (x.getD 0 0)) (cellC m.1.length (x.getD 1 0)) w):=by
  obtain ⟨a,b,g,o,rfl,rfl,hg,c0,c1,ha,hb⟩:=hx.two;(try rw [hm.is.len1]);show Calls _ _ _ _ (MemOut P Kp (storeF m b a) (cellC n b) w);have HM:=zqh hm;have HC:=zqh fun w (hm : MemIn w A P n c Kp d0 m) => store_atp A P n c Kp d0 m b a w (zqh hm.is) (by have:=hm.n2; omega) (by have:=hm.k1; omega)
  generalize cellC n b = C at HC ⊢;generalize storeF m b a = M at HC ⊢;have C0:=zqh c0;have C1:=zqh c1;clear c0 c1;clear hm hx;go_enter Tryz.func103,Tryz.ntmps103;go_upto_region 1 with fail
  generalize hw1 : World.alloc (World.alloc _ _) _ = w1;have kb : Below w.heap.size w w1:=by rw [← hw1]; exact al_two _ _ _
  have kx : Box w1 w.heap.size (.slice A n c) (.slice P Kp d0) 27:=by rw [← hw1]; exact (box_two w _ _ _ _ _ _).1
  have kz : Box w1 (w.heap.size + 1) (.slice none 0 0) (.slice none 0 0) 27:=by rw [← hw1]; exact (box_two w _ _ _ _ _ _).2
  have KS : Hid (w1.heap.size = w.heap.size + 1 + 1):=by show _ = _; rw [← hw1]; simp
  clear hw1;have X1:=zqh kx;have Z1:=zqh kz;have B1:=zqh kb;clear kb kx kz;refine wp_region_noPanic ?_;refine wp_region_held_drew (S:=fun a => Below w.heap.size w a ∧ Box a w.heap.size (.slice A n c) (.slice P Kp d0) 27 ∧ ∃ A9 P9 n9 c9 k9 d9,Box a (w.heap.size + 1) (.slice A9 n9 c9) (.slice P9 k9 d9) 27) (by kernel_rfl) ?_ (fun hHeld => ?_)
  · exact ⟨B1.out.drew,X1.out,_,_,_,_,_,_,Z1.out⟩
  refine zqt (i:=0) (v:=?v0a13) ?y0a13 ?r0a13
  case y0a13 =>
    intro u hSu;(try dsimp only at hSu);obtain ⟨q0,q1,_,_⟩:=hSu.2.1.use;go_simp;(try with_reducible rfl)
  (try simp only [zq,Act.put]);refine zqt (i:=1) (v:=?v1a13) ?y1a13 ?r1a13
  case y1a13 =>
    intro u hSu;go_simp;(try with_reducible rfl)
  (try simp only [zq,Act.put]);refine zqt (i:=2) (v:=?v2a13) ?y2a13 ?r2a13
  case y2a13 =>
    intro u hSu;go_simp;(try with_reducible rfl)
  (try simp only [zq,Act.put]);refine zqt (i:=3) (v:=?v3a13) ?y3a13 ?r3a13
  case y3a13 =>
    intro u hSu;(try dsimp only at hSu);have q0:=(hSu.1.cell (p:=⟨g,o,none⟩) hg).trans C0.out;have q1:=(hSu.1.cell (p:=⟨g,o + 1,none⟩) hg).trans C1.out;go_simp;(try with_reducible rfl)
  (try simp only [zq,Act.put]);refine zqt (i:=4) (v:=?v4a13) ?y4a13 ?r4a13
  case y4a13 =>
    intro u hSu;go_simp;(try with_reducible rfl)
  (try simp only [zq,Act.put]);refine zqt (i:=5) (v:=?v5a13) ?y5a13 ?r5a13
  case y5a13 =>
    intro u hSu;go_simp;(try with_reducible rfl)
  (try simp only [zq,Act.put]);refine zqt (i:=6) (v:=?v6a13) ?y6a13 ?r6a13
  case y6a13 =>
    intro u hSu;(try dsimp only at hSu);have q0:=(hSu.1.cell (p:=⟨g,o,none⟩) hg).trans C0.out;have q1:=(hSu.1.cell (p:=⟨g,o + 1,none⟩) hg).trans C1.out;go_simp;(try with_reducible rfl)
  (try simp only [zq,Act.put]);refine zqr 7 fun K hK => ?_
  go_simp;refine (HC.out _ (HM.out.keep hHeld.1)).mono ?_;rintro e u1 ⟨A2,n2,c2,P2,K2,d2,rfl,hr,bb⟩;obtain ⟨A9,P9,n9,c9,k9,d9,hz⟩:=hHeld.2.2;have hN : Below w.heap.size w u1 ∧ Box u1 w.heap.size (.slice A n c) (.slice P Kp d0) 27 ∧ ∃ A9 P9 n9 c9 k9 d9,Box u1 (w.heap.size + 1) (.slice A9 n9 c9) (.slice P9 k9 d9) 27:=⟨below_then hHeld.1 bb,hHeld.2.1.keep bb,A9,P9,n9,c9,k9,d9,hz.keep bb⟩;have HZ:=zqh (hz.keep bb);have HR : Hid (C = 0 → MemP P Kp w.heap.size u1 (.agg #[.slice A2 n2 c2,.slice P2 K2 d2]) M):=zqh fun h => hr.le hHeld.1.size
  (go_wp2_with fail);clear bb hr hz;clear hHeld;refine hK.out _ _ hN (fun hHeld => ?_);clear hK K hN;(try simp only [zq,Act.put]);refine zqt (i:=8) (v:=?v8a13) ?y8a13 ?r8a13
  case y8a13 =>
    intro u hSu;go_simp;(try with_reducible rfl)
  (try simp only [zq,Act.put]);refine zqt (i:=9) (v:=?v9a13) ?y9a13 ?r9a13
  case y9a13 =>
    intro u hSu;go_simp;(try with_reducible rfl)
  (try simp only [zq,Act.put]);refine zqr 10 fun K hK => ?_
  obtain ⟨z0,z1,z2,z3⟩:=HZ.out.use;have hB:=hHeld.1;have hX:=hHeld.2.1;go_simp;(go_wp2_with fail);refine hK.out _ _ ⟨(hB.setCell (by simp) _).setCell (by simp) _,hX.row (row_put _ _ _ _) (by omega),_,_,_,_,_,_,HZ.out.put _ _⟩ (fun hHeld => ?_);have HB:=zqh hHeld.1;clear z0 z1 z2 z3 hB hX;clear hK K;(try simp only [zq,Act.put]);refine zqt (i:=11) (v:=?v11a13) ?y11a13 ?r11a13
  case y11a13 =>
    intro u hSu;go_simp;(try with_reducible rfl)
  (try simp only [zq,Act.put]);refine wpAnyH_done (by kernel_rfl) ?_ _;refine NoPanic.normal ?_;(go_wp2_with fail);refine bodyPost_ret (v:=.tuple #[.agg #[.slice A2 n2 c2,.slice P2 K2 d2],.int .i64 C]) ?_ rfl ?_
  · obtain ⟨r0,r1⟩:=HZ.out.got (.slice A2 n2 c2) (.slice P2 K2 d2)
    simp [results,Tryz.results103,go_sem,r0,r1]
  · exact ⟨_,_,_,_,_,_,rfl,fun hz => (HR.out hz).row2 (Nat.le_refl _) HZ.out (row_put _ _ _ _),HB.out⟩
theorem cell2 (A P : Option Addr) (n c Kp d0 : Nat) (m : PM) (A1 : Option Addr) (c1 : Nat) (x : List Int) (w : World) (hm : MemIn w A P n c Kp d0 m) (hx : Takes w 2 A1 c1 x) :
    Calls Tryz.prog 105 #[.agg #[.slice A n c,.slice P Kp d0],.slice A1 2 c1] w (MemOut P Kp (storeF m (x.getD 1 0) (wrap64 (fetchF m (x.getD 1 0) + (x.getD 0 0)))) (cellC m.1.length (x.getD 1 0)) w):=by
  obtain ⟨a,b,g,o,rfl,rfl,hg,c0,c1,ha,hb⟩:=hx.two;(try rw [hm.is.len1]);show Calls _ _ _ _ (MemOut P Kp (storeF m b (wrap64 (fetchF m b + a))) (cellC n b) w);have HM:=zqh hm;have HC:=zqh fun w (hm : MemIn w A P n c Kp d0 m) => raised_any A P n c Kp d0 m b a w hm
  generalize cellC n b = C at HC ⊢;generalize storeF m b (wrap64 (fetchF m b + a)) = M at HC ⊢;have C0:=zqh c0;have C1:=zqh c1;clear c0 c1;clear hm hx;go_enter Tryz.func105,Tryz.ntmps105;go_upto_region 1 with fail
  generalize hw1 : World.alloc (World.alloc _ _) _ = w1;have kb : Below w.heap.size w w1:=by rw [← hw1]; exact al_two _ _ _
  have kx : Box w1 w.heap.size (.slice A n c) (.slice P Kp d0) 27:=by rw [← hw1]; exact (box_two w _ _ _ _ _ _).1
  have kz : Box w1 (w.heap.size + 1) (.slice none 0 0) (.slice none 0 0) 27:=by rw [← hw1]; exact (box_two w _ _ _ _ _ _).2
  have KS : Hid (w1.heap.size = w.heap.size + 1 + 1):=by show _ = _; rw [← hw1]; simp
  clear hw1;have X1:=zqh kx;have Z1:=zqh kz;have B1:=zqh kb;clear kb kx kz;refine wp_region_noPanic ?_;refine wp_region_held_drew (S:=fun a => Below w.heap.size w a ∧ Box a w.heap.size (.slice A n c) (.slice P Kp d0) 27 ∧ ∃ A9 P9 n9 c9 k9 d9,Box a (w.heap.size + 1) (.slice A9 n9 c9) (.slice P9 k9 d9) 27) (by kernel_rfl) ?_ (fun hHeld => ?_)
  · exact ⟨B1.out.drew,X1.out,_,_,_,_,_,_,Z1.out⟩
  refine zqt (i:=0) (v:=?v0a14) ?y0a14 ?r0a14
  case y0a14 =>
    intro u hSu;(try dsimp only at hSu);obtain ⟨q0,q1,_,_⟩:=hSu.2.1.use;go_simp;(try with_reducible rfl)
  (try simp only [zq,Act.put]);refine zqt (i:=1) (v:=?v1a14) ?y1a14 ?r1a14
  case y1a14 =>
    intro u hSu;go_simp;(try with_reducible rfl)
  (try simp only [zq,Act.put]);refine zqt (i:=2) (v:=?v2a14) ?y2a14 ?r2a14
  case y2a14 =>
    intro u hSu;go_simp;(try with_reducible rfl)
  (try simp only [zq,Act.put]);refine zqt (i:=3) (v:=?v3a14) ?y3a14 ?r3a14
  case y3a14 =>
    intro u hSu;(try dsimp only at hSu);have q0:=(hSu.1.cell (p:=⟨g,o,none⟩) hg).trans C0.out;have q1:=(hSu.1.cell (p:=⟨g,o + 1,none⟩) hg).trans C1.out;go_simp;(try with_reducible rfl)
  (try simp only [zq,Act.put]);refine zqt (i:=4) (v:=?v4a14) ?y4a14 ?r4a14
  case y4a14 =>
    intro u hSu;go_simp;(try with_reducible rfl)
  (try simp only [zq,Act.put]);refine zqt (i:=5) (v:=?v5a14) ?y5a14 ?r5a14
  case y5a14 =>
    intro u hSu;go_simp;(try with_reducible rfl)
  (try simp only [zq,Act.put]);refine zqt (i:=6) (v:=?v6a14) ?y6a14 ?r6a14
  case y6a14 =>
    intro u hSu;(try dsimp only at hSu);have q0:=(hSu.1.cell (p:=⟨g,o,none⟩) hg).trans C0.out;have q1:=(hSu.1.cell (p:=⟨g,o + 1,none⟩) hg).trans C1.out;go_simp;(try with_reducible rfl)
  (try simp only [zq,Act.put]);refine zqr 7 fun K hK => ?_
  go_simp;refine (HC.out _ (HM.out.keep hHeld.1)).mono ?_;rintro e u1 ⟨A2,n2,c2,P2,K2,d2,rfl,hr,bb⟩;obtain ⟨A9,P9,n9,c9,k9,d9,hz⟩:=hHeld.2.2;have hN : Below w.heap.size w u1 ∧ Box u1 w.heap.size (.slice A n c) (.slice P Kp d0) 27 ∧ ∃ A9 P9 n9 c9 k9 d9,Box u1 (w.heap.size + 1) (.slice A9 n9 c9) (.slice P9 k9 d9) 27:=⟨below_then hHeld.1 bb,hHeld.2.1.keep bb,A9,P9,n9,c9,k9,d9,hz.keep bb⟩;have HZ:=zqh (hz.keep bb);have HR : Hid (C = 0 → MemP P Kp w.heap.size u1 (.agg #[.slice A2 n2 c2,.slice P2 K2 d2]) M):=zqh fun h => (hr h).le hHeld.1.size
  (go_wp2_with fail);clear bb hr hz;clear hHeld;refine hK.out _ _ hN (fun hHeld => ?_);clear hK K hN;(try simp only [zq,Act.put]);refine zqt (i:=8) (v:=?v8a14) ?y8a14 ?r8a14
  case y8a14 =>
    intro u hSu;go_simp;(try with_reducible rfl)
  (try simp only [zq,Act.put]);refine zqt (i:=9) (v:=?v9a14) ?y9a14 ?r9a14
  case y9a14 =>
    intro u hSu;go_simp;(try with_reducible rfl)
  (try simp only [zq,Act.put]);refine zqr 10 fun K hK => ?_
  obtain ⟨z0,z1,z2,z3⟩:=HZ.out.use;have hB:=hHeld.1;have hX:=hHeld.2.1;go_simp;(go_wp2_with fail);refine hK.out _ _ ⟨(hB.setCell (by simp) _).setCell (by simp) _,hX.row (row_put _ _ _ _) (by omega),_,_,_,_,_,_,HZ.out.put _ _⟩ (fun hHeld => ?_);have HB:=zqh hHeld.1;clear z0 z1 z2 z3 hB hX;clear hK K;(try simp only [zq,Act.put]);refine zqt (i:=11) (v:=?v11a14) ?y11a14 ?r11a14
  case y11a14 =>
    intro u hSu;go_simp;(try with_reducible rfl)
  (try simp only [zq,Act.put]);refine wpAnyH_done (by kernel_rfl) ?_ _;refine NoPanic.normal ?_;(go_wp2_with fail);refine bodyPost_ret (v:=.tuple #[.agg #[.slice A2 n2 c2,.slice P2 K2 d2],.int .i64 C]) ?_ rfl ?_
  · obtain ⟨r0,r1⟩:=HZ.out.got (.slice A2 n2 c2) (.slice P2 K2 d2)
    simp [results,Tryz.results105,go_sem,r0,r1]
  · exact ⟨_,_,_,_,_,_,rfl,fun hz => (HR.out hz).row2 (Nat.le_refl _) HZ.out (row_put _ _ _ _),HB.out⟩
theorem cell3 (A P : Option Addr) (n c Kp d0 : Nat) (m : PM) (A1 : Option Addr) (c1 : Nat) (x : List Int) (w : World) (hm : MemIn w A P n c Kp d0 m) (hx : Takes w 2 A1 c1 x) :
    Calls Tryz.prog 108 #[.agg #[.slice A n c,.slice P Kp d0],.slice A1 2 c1] w (MemOut P Kp (writeF m (x.getD 1 0) [lowB (x.getD 0 0)]) (codeF (okB m.1.length (x.getD 1 0) 1)) w):=by
  obtain ⟨a,b,g,o,rfl,rfl,hg,c0,c1,ha,hb⟩:=hx.two;(try rw [hm.is.len1]);show Calls _ _ _ _ (MemOut P Kp (writeF m b [lowB a]) (codeF (okB n b 1)) w);have HM:=zqh hm;have HC:=zqh fun w (hm : MemIn w A P n c Kp d0 m) => storeByte_atp A P n c Kp d0 m b a w (zqh hm.is) (by have:=hm.n2; omega) (by have:=hm.k1; omega)
  generalize codeF (okB n b 1) = C at HC ⊢;generalize writeF m b [lowB a] = M at HC ⊢;have C0:=zqh c0;have C1:=zqh c1;clear c0 c1;clear hm hx;go_enter Tryz.func108,Tryz.ntmps108;go_upto_region 1 with fail
  generalize hw1 : World.alloc (World.alloc _ _) _ = w1;have kb : Below w.heap.size w w1:=by rw [← hw1]; exact al_two _ _ _
  have kx : Box w1 w.heap.size (.slice A n c) (.slice P Kp d0) 27:=by rw [← hw1]; exact (box_two w _ _ _ _ _ _).1
  have kz : Box w1 (w.heap.size + 1) (.slice none 0 0) (.slice none 0 0) 27:=by rw [← hw1]; exact (box_two w _ _ _ _ _ _).2
  have KS : Hid (w1.heap.size = w.heap.size + 1 + 1):=by show _ = _; rw [← hw1]; simp
  clear hw1;have X1:=zqh kx;have Z1:=zqh kz;have B1:=zqh kb;clear kb kx kz;refine wp_region_noPanic ?_;refine wp_region_held_drew (S:=fun a => Below w.heap.size w a ∧ Box a w.heap.size (.slice A n c) (.slice P Kp d0) 27 ∧ ∃ A9 P9 n9 c9 k9 d9,Box a (w.heap.size + 1) (.slice A9 n9 c9) (.slice P9 k9 d9) 27) (by kernel_rfl) ?_ (fun hHeld => ?_)
  · exact ⟨B1.out.drew,X1.out,_,_,_,_,_,_,Z1.out⟩
  refine zqt (i:=0) (v:=?v0a15) ?y0a15 ?r0a15
  case y0a15 =>
    intro u hSu;(try dsimp only at hSu);obtain ⟨q0,q1,_,_⟩:=hSu.2.1.use;go_simp;(try with_reducible rfl)
  (try simp only [zq,Act.put]);refine zqt (i:=1) (v:=?v1a15) ?y1a15 ?r1a15
  case y1a15 =>
    intro u hSu;go_simp;(try with_reducible rfl)
  (try simp only [zq,Act.put]);refine zqt (i:=2) (v:=?v2a15) ?y2a15 ?r2a15
  case y2a15 =>
    intro u hSu;go_simp;(try with_reducible rfl)
  (try simp only [zq,Act.put]);refine zqt (i:=3) (v:=?v3a15) ?y3a15 ?r3a15
  case y3a15 =>
    intro u hSu;(try dsimp only at hSu);have q0:=(hSu.1.cell (p:=⟨g,o,none⟩) hg).trans C0.out;have q1:=(hSu.1.cell (p:=⟨g,o + 1,none⟩) hg).trans C1.out;go_simp;(try with_reducible rfl)
  (try simp only [zq,Act.put]);refine zqt (i:=4) (v:=?v4a15) ?y4a15 ?r4a15
  case y4a15 =>
    intro u hSu;go_simp;(try with_reducible rfl)
  (try simp only [zq,Act.put]);refine zqt (i:=5) (v:=?v5a15) ?y5a15 ?r5a15
  case y5a15 =>
    intro u hSu;go_simp;(try with_reducible rfl)
  (try simp only [zq,Act.put]);refine zqt (i:=6) (v:=?v6a15) ?y6a15 ?r6a15
  case y6a15 =>
    intro u hSu;(try dsimp only at hSu);have q0:=(hSu.1.cell (p:=⟨g,o,none⟩) hg).trans C0.out;have q1:=(hSu.1.cell (p:=⟨g,o + 1,none⟩) hg).trans C1.out;go_simp;(try with_reducible rfl)
  (try simp only [zq,Act.put]);refine zqr 7 fun K hK => ?_
  go_simp;refine (HC.out _ (HM.out.keep hHeld.1)).mono ?_;rintro e u1 ⟨A2,n2,c2,P2,K2,d2,rfl,hr,bb⟩;obtain ⟨A9,P9,n9,c9,k9,d9,hz⟩:=hHeld.2.2;have hN : Below w.heap.size w u1 ∧ Box u1 w.heap.size (.slice A n c) (.slice P Kp d0) 27 ∧ ∃ A9 P9 n9 c9 k9 d9,Box u1 (w.heap.size + 1) (.slice A9 n9 c9) (.slice P9 k9 d9) 27:=⟨below_then hHeld.1 bb,hHeld.2.1.keep bb,A9,P9,n9,c9,k9,d9,hz.keep bb⟩;have HZ:=zqh (hz.keep bb);have HR : Hid (C = 0 → MemP P Kp w.heap.size u1 (.agg #[.slice A2 n2 c2,.slice P2 K2 d2]) M):=zqh fun h => hr.le hHeld.1.size
  (go_wp2_with fail);clear bb hr hz;clear hHeld;refine hK.out _ _ hN (fun hHeld => ?_);clear hK K hN;(try simp only [zq,Act.put]);refine zqt (i:=8) (v:=?v8a15) ?y8a15 ?r8a15
  case y8a15 =>
    intro u hSu;go_simp;(try with_reducible rfl)
  (try simp only [zq,Act.put]);refine zqt (i:=9) (v:=?v9a15) ?y9a15 ?r9a15
  case y9a15 =>
    intro u hSu;go_simp;(try with_reducible rfl)
  (try simp only [zq,Act.put]);refine zqr 10 fun K hK => ?_
  obtain ⟨z0,z1,z2,z3⟩:=HZ.out.use;have hB:=hHeld.1;have hX:=hHeld.2.1;go_simp;(go_wp2_with fail);refine hK.out _ _ ⟨(hB.setCell (by simp) _).setCell (by simp) _,hX.row (row_put _ _ _ _) (by omega),_,_,_,_,_,_,HZ.out.put _ _⟩ (fun hHeld => ?_);have HB:=zqh hHeld.1;clear z0 z1 z2 z3 hB hX;clear hK K;(try simp only [zq,Act.put]);refine zqt (i:=11) (v:=?v11a15) ?y11a15 ?r11a15
  case y11a15 =>
    intro u hSu;go_simp;(try with_reducible rfl)
  (try simp only [zq,Act.put]);refine wpAnyH_done (by kernel_rfl) ?_ _;refine NoPanic.normal ?_;(go_wp2_with fail);refine bodyPost_ret (v:=.tuple #[.agg #[.slice A2 n2 c2,.slice P2 K2 d2],.int .i64 C]) ?_ rfl ?_
  · obtain ⟨r0,r1⟩:=HZ.out.got (.slice A2 n2 c2) (.slice P2 K2 d2)
    simp [results,Tryz.results108,go_sem,r0,r1]
  · exact ⟨_,_,_,_,_,_,rfl,fun hz => (HR.out hz).row2 (Nat.le_refl _) HZ.out (row_put _ _ _ _),HB.out⟩
theorem cell4 (A P : Option Addr) (n c Kp d0 : Nat) (m : PM) (A1 : Option Addr) (c1 : Nat) (x : List Int) (w : World) (hm : MemIn w A P n c Kp d0 m) (hx : Takes w 3 A1 c1 x) :
    Calls Tryz.prog 112 #[.agg #[.slice A n c,.slice P Kp d0],.slice A1 3 c1] w (MemOut P Kp (storeF (storeF m (x.getD 2 0) (x.getD 1 0)) (wrap64 ((x.getD 2 0) + 8)) (x.getD 0 0)) (twoC m.1.length (x.getD 2 0)) w):=by
  obtain ⟨a,b,d,g,o,rfl,rfl,hg,c0,c1,c2,ha,hb,hd⟩:=hx.three;(try rw [hm.is.len1]);show Calls _ _ _ _ (MemOut P Kp (storeF (storeF m d b) (wrap64 (d + 8)) a) (twoC n d) w);have HM:=zqh hm;have HC:=zqh fun w (hm : MemIn w A P n c Kp d0 m) => bothStored_any A P n c Kp d0 m d b a w hm
  generalize twoC n d = C at HC ⊢;generalize storeF (storeF m d b) (wrap64 (d + 8)) a = M at HC ⊢;have C0:=zqh c0;have C1:=zqh c1;have C2:=zqh c2;clear c0 c1 c2;clear hm hx;go_enter Tryz.func112,Tryz.ntmps112;go_upto_region 1 with fail
  generalize hw1 : World.alloc (World.alloc _ _) _ = w1;have kb : Below w.heap.size w w1:=by rw [← hw1]; exact al_two _ _ _
  have kx : Box w1 w.heap.size (.slice A n c) (.slice P Kp d0) 27:=by rw [← hw1]; exact (box_two w _ _ _ _ _ _).1
  have kz : Box w1 (w.heap.size + 1) (.slice none 0 0) (.slice none 0 0) 27:=by rw [← hw1]; exact (box_two w _ _ _ _ _ _).2
  have KS : Hid (w1.heap.size = w.heap.size + 1 + 1):=by show _ = _; rw [← hw1]; simp
  clear hw1;have X1:=zqh kx;have Z1:=zqh kz;have B1:=zqh kb;clear kb kx kz;refine wp_region_noPanic ?_;refine wp_region_held_drew (S:=fun a => Below w.heap.size w a ∧ Box a w.heap.size (.slice A n c) (.slice P Kp d0) 27 ∧ ∃ A9 P9 n9 c9 k9 d9,Box a (w.heap.size + 1) (.slice A9 n9 c9) (.slice P9 k9 d9) 27) (by kernel_rfl) ?_ (fun hHeld => ?_)
  · exact ⟨B1.out.drew,X1.out,_,_,_,_,_,_,Z1.out⟩
  refine zqt (i:=0) (v:=?v0a16) ?y0a16 ?r0a16
  case y0a16 =>
    intro u hSu;(try dsimp only at hSu);obtain ⟨q0,q1,_,_⟩:=hSu.2.1.use;go_simp;(try with_reducible rfl)
  (try simp only [zq,Act.put]);refine zqt (i:=1) (v:=?v1a16) ?y1a16 ?r1a16
  case y1a16 =>
    intro u hSu;go_simp;(try with_reducible rfl)
  (try simp only [zq,Act.put]);refine zqt (i:=2) (v:=?v2a16) ?y2a16 ?r2a16
  case y2a16 =>
    intro u hSu;go_simp;(try with_reducible rfl)
  (try simp only [zq,Act.put]);refine zqt (i:=3) (v:=?v3a16) ?y3a16 ?r3a16
  case y3a16 =>
    intro u hSu;(try dsimp only at hSu);have q0:=(hSu.1.cell (p:=⟨g,o,none⟩) hg).trans C0.out;have q1:=(hSu.1.cell (p:=⟨g,o + 1,none⟩) hg).trans C1.out;have q2:=(hSu.1.cell (p:=⟨g,o + 2,none⟩) hg).trans C2.out;go_simp;(try with_reducible rfl)
  (try simp only [zq,Act.put]);refine zqt (i:=4) (v:=?v4a16) ?y4a16 ?r4a16
  case y4a16 =>
    intro u hSu;go_simp;(try with_reducible rfl)
  (try simp only [zq,Act.put]);refine zqt (i:=5) (v:=?v5a16) ?y5a16 ?r5a16
  case y5a16 =>
    intro u hSu;go_simp;(try with_reducible rfl)
  (try simp only [zq,Act.put]);refine zqt (i:=6) (v:=?v6a16) ?y6a16 ?r6a16
  case y6a16 =>
    intro u hSu;(try dsimp only at hSu);have q0:=(hSu.1.cell (p:=⟨g,o,none⟩) hg).trans C0.out;have q1:=(hSu.1.cell (p:=⟨g,o + 1,none⟩) hg).trans C1.out;have q2:=(hSu.1.cell (p:=⟨g,o + 2,none⟩) hg).trans C2.out;go_simp;(try with_reducible rfl)
  (try simp only [zq,Act.put]);refine zqt (i:=7) (v:=?v7a16) ?y7a16 ?r7a16
  case y7a16 =>
    intro u hSu;go_simp;(try with_reducible rfl)
  (try simp only [zq,Act.put]);refine zqt (i:=8) (v:=?v8a16) ?y8a16 ?r8a16
  case y8a16 =>
    intro u hSu;go_simp;(try with_reducible rfl)
  (try simp only [zq,Act.put]);refine zqt (i:=9) (v:=?v9a16) ?y9a16 ?r9a16
  case y9a16 =>
    intro u hSu;(try dsimp only at hSu);have q0:=(hSu.1.cell (p:=⟨g,o,none⟩) hg).trans C0.out;have q1:=(hSu.1.cell (p:=⟨g,o + 1,none⟩) hg).trans C1.out;have q2:=(hSu.1.cell (p:=⟨g,o + 2,none⟩) hg).trans C2.out;go_simp;(try with_reducible rfl)
  (try simp only [zq,Act.put]);refine zqr 10 fun K hK => ?_
  go_simp;refine (HC.out _ (HM.out.keep hHeld.1)).mono ?_;rintro e u1 ⟨A2,n2,c2,P2,K2,d2,rfl,hr,bb⟩;obtain ⟨A9,P9,n9,c9,k9,d9,hz⟩:=hHeld.2.2;have hN : Below w.heap.size w u1 ∧ Box u1 w.heap.size (.slice A n c) (.slice P Kp d0) 27 ∧ ∃ A9 P9 n9 c9 k9 d9,Box u1 (w.heap.size + 1) (.slice A9 n9 c9) (.slice P9 k9 d9) 27:=⟨below_then hHeld.1 bb,hHeld.2.1.keep bb,A9,P9,n9,c9,k9,d9,hz.keep bb⟩;have HZ:=zqh (hz.keep bb);have HR : Hid (C = 0 → MemP P Kp w.heap.size u1 (.agg #[.slice A2 n2 c2,.slice P2 K2 d2]) M):=zqh fun h => (hr h).le hHeld.1.size
  (go_wp2_with fail);clear bb hr hz;clear hHeld;refine hK.out _ _ hN (fun hHeld => ?_);clear hK K hN;(try simp only [zq,Act.put]);refine zqt (i:=11) (v:=?v11a16) ?y11a16 ?r11a16
  case y11a16 =>
    intro u hSu;go_simp;(try with_reducible rfl)
  (try simp only [zq,Act.put]);refine zqt (i:=12) (v:=?v12a16) ?y12a16 ?r12a16
  case y12a16 =>
    intro u hSu;go_simp;(try with_reducible rfl)
  (try simp only [zq,Act.put]);refine zqr 13 fun K hK => ?_
  obtain ⟨z0,z1,z2,z3⟩:=HZ.out.use;have hB:=hHeld.1;have hX:=hHeld.2.1;go_simp;(go_wp2_with fail);refine hK.out _ _ ⟨(hB.setCell (by simp) _).setCell (by simp) _,hX.row (row_put _ _ _ _) (by omega),_,_,_,_,_,_,HZ.out.put _ _⟩ (fun hHeld => ?_);have HB:=zqh hHeld.1;clear z0 z1 z2 z3 hB hX;clear hK K;(try simp only [zq,Act.put]);refine zqt (i:=14) (v:=?v14a16) ?y14a16 ?r14a16
  case y14a16 =>
    intro u hSu;go_simp;(try with_reducible rfl)
  (try simp only [zq,Act.put]);refine wpAnyH_done (by kernel_rfl) ?_ _;refine NoPanic.normal ?_;(go_wp2_with fail);refine bodyPost_ret (v:=.tuple #[.agg #[.slice A2 n2 c2,.slice P2 K2 d2],.int .i64 C]) ?_ rfl ?_
  · obtain ⟨r0,r1⟩:=HZ.out.got (.slice A2 n2 c2) (.slice P2 K2 d2)
    simp [results,Tryz.results112,go_sem,r0,r1]
  · exact ⟨_,_,_,_,_,_,rfl,fun hz => (HR.out hz).row2 (Nat.le_refl _) HZ.out (row_put _ _ _ _),HB.out⟩
theorem cell5 (A P : Option Addr) (n c Kp d0 : Nat) (m : PM) (A1 : Option Addr) (c1 : Nat) (x : List Int) (w : World) (hm : MemIn w A P n c Kp d0 m) (hx : Takes w 3 A1 c1 x) :
    Calls Tryz.prog 114 #[.agg #[.slice A n c,.slice P Kp d0],.slice A1 3 c1] w (MemOut P Kp (fillF m (x.getD 0 0) (x.getD 1 0) (x.getD 2 0)) (codeF (okB m.1.length (x.getD 0 0) (x.getD 1 0))) w):=by
  obtain ⟨a,b,d,g,o,rfl,rfl,hg,c0,c1,c2,ha,hb,hd⟩:=hx.three;(try rw [hm.is.len1]);show Calls _ _ _ _ (MemOut P Kp (fillF m a b d) (codeF (okB n a b)) w);have HM:=zqh hm;have HC:=zqh fun w (hm : MemIn w A P n c Kp d0 m) => fill_atp A P n c Kp d0 m a b d w (zqh hm.is) (hm.n2) (by have:=hm.k1; omega) hb.2
  generalize codeF (okB n a b) = C at HC ⊢;generalize fillF m a b d = M at HC ⊢;have C0:=zqh c0;have C1:=zqh c1;have C2:=zqh c2;clear c0 c1 c2;clear hm hx;go_enter Tryz.func114,Tryz.ntmps114;go_upto_region 1 with fail
  generalize hw1 : World.alloc (World.alloc _ _) _ = w1;have kb : Below w.heap.size w w1:=by rw [← hw1]; exact al_two _ _ _
  have kx : Box w1 w.heap.size (.slice A n c) (.slice P Kp d0) 27:=by rw [← hw1]; exact (box_two w _ _ _ _ _ _).1
  have kz : Box w1 (w.heap.size + 1) (.slice none 0 0) (.slice none 0 0) 27:=by rw [← hw1]; exact (box_two w _ _ _ _ _ _).2
  have KS : Hid (w1.heap.size = w.heap.size + 1 + 1):=by show _ = _; rw [← hw1]; simp
  clear hw1;have X1:=zqh kx;have Z1:=zqh kz;have B1:=zqh kb;clear kb kx kz;refine wp_region_noPanic ?_;refine wp_region_held_drew (S:=fun a => Below w.heap.size w a ∧ Box a w.heap.size (.slice A n c) (.slice P Kp d0) 27 ∧ ∃ A9 P9 n9 c9 k9 d9,Box a (w.heap.size + 1) (.slice A9 n9 c9) (.slice P9 k9 d9) 27) (by kernel_rfl) ?_ (fun hHeld => ?_)
  · exact ⟨B1.out.drew,X1.out,_,_,_,_,_,_,Z1.out⟩
  refine zqt (i:=0) (v:=?v0a17) ?y0a17 ?r0a17
  case y0a17 =>
    intro u hSu;(try dsimp only at hSu);obtain ⟨q0,q1,_,_⟩:=hSu.2.1.use;go_simp;(try with_reducible rfl)
  (try simp only [zq,Act.put]);refine zqt (i:=1) (v:=?v1a17) ?y1a17 ?r1a17
  case y1a17 =>
    intro u hSu;go_simp;(try with_reducible rfl)
  (try simp only [zq,Act.put]);refine zqt (i:=2) (v:=?v2a17) ?y2a17 ?r2a17
  case y2a17 =>
    intro u hSu;go_simp;(try with_reducible rfl)
  (try simp only [zq,Act.put]);refine zqt (i:=3) (v:=?v3a17) ?y3a17 ?r3a17
  case y3a17 =>
    intro u hSu;(try dsimp only at hSu);have q0:=(hSu.1.cell (p:=⟨g,o,none⟩) hg).trans C0.out;have q1:=(hSu.1.cell (p:=⟨g,o + 1,none⟩) hg).trans C1.out;have q2:=(hSu.1.cell (p:=⟨g,o + 2,none⟩) hg).trans C2.out;go_simp;(try with_reducible rfl)
  (try simp only [zq,Act.put]);refine zqt (i:=4) (v:=?v4a17) ?y4a17 ?r4a17
  case y4a17 =>
    intro u hSu;go_simp;(try with_reducible rfl)
  (try simp only [zq,Act.put]);refine zqt (i:=5) (v:=?v5a17) ?y5a17 ?r5a17
  case y5a17 =>
    intro u hSu;go_simp;(try with_reducible rfl)
  (try simp only [zq,Act.put]);refine zqt (i:=6) (v:=?v6a17) ?y6a17 ?r6a17
  case y6a17 =>
    intro u hSu;(try dsimp only at hSu);have q0:=(hSu.1.cell (p:=⟨g,o,none⟩) hg).trans C0.out;have q1:=(hSu.1.cell (p:=⟨g,o + 1,none⟩) hg).trans C1.out;have q2:=(hSu.1.cell (p:=⟨g,o + 2,none⟩) hg).trans C2.out;go_simp;(try with_reducible rfl)
  (try simp only [zq,Act.put]);refine zqt (i:=7) (v:=?v7a17) ?y7a17 ?r7a17
  case y7a17 =>
    intro u hSu;go_simp;(try with_reducible rfl)
  (try simp only [zq,Act.put]);refine zqt (i:=8) (v:=?v8a17) ?y8a17 ?r8a17
  case y8a17 =>
    intro u hSu;go_simp;(try with_reducible rfl)
  (try simp only [zq,Act.put]);refine zqt (i:=9) (v:=?v9a17) ?y9a17 ?r9a17
  case y9a17 =>
    intro u hSu;(try dsimp only at hSu);have q0:=(hSu.1.cell (p:=⟨g,o,none⟩) hg).trans C0.out;have q1:=(hSu.1.cell (p:=⟨g,o + 1,none⟩) hg).trans C1.out;have q2:=(hSu.1.cell (p:=⟨g,o + 2,none⟩) hg).trans C2.out;go_simp;(try with_reducible rfl)
  (try simp only [zq,Act.put]);refine zqr 10 fun K hK => ?_
  go_simp;refine (HC.out _ (HM.out.keep hHeld.1)).mono ?_;rintro e u1 ⟨A2,n2,c2,P2,K2,d2,rfl,hr,bb⟩;obtain ⟨A9,P9,n9,c9,k9,d9,hz⟩:=hHeld.2.2;have hN : Below w.heap.size w u1 ∧ Box u1 w.heap.size (.slice A n c) (.slice P Kp d0) 27 ∧ ∃ A9 P9 n9 c9 k9 d9,Box u1 (w.heap.size + 1) (.slice A9 n9 c9) (.slice P9 k9 d9) 27:=⟨below_then hHeld.1 bb,hHeld.2.1.keep bb,A9,P9,n9,c9,k9,d9,hz.keep bb⟩;have HZ:=zqh (hz.keep bb);have HR : Hid (C = 0 → MemP P Kp w.heap.size u1 (.agg #[.slice A2 n2 c2,.slice P2 K2 d2]) M):=zqh fun h => hr.le hHeld.1.size
  (go_wp2_with fail);clear bb hr hz;clear hHeld;refine hK.out _ _ hN (fun hHeld => ?_);clear hK K hN;(try simp only [zq,Act.put]);refine zqt (i:=11) (v:=?v11a17) ?y11a17 ?r11a17
  case y11a17 =>
    intro u hSu;go_simp;(try with_reducible rfl)
  (try simp only [zq,Act.put]);refine zqt (i:=12) (v:=?v12a17) ?y12a17 ?r12a17
  case y12a17 =>
    intro u hSu;go_simp;(try with_reducible rfl)
  (try simp only [zq,Act.put]);refine zqr 13 fun K hK => ?_
  obtain ⟨z0,z1,z2,z3⟩:=HZ.out.use;have hB:=hHeld.1;have hX:=hHeld.2.1;go_simp;(go_wp2_with fail);refine hK.out _ _ ⟨(hB.setCell (by simp) _).setCell (by simp) _,hX.row (row_put _ _ _ _) (by omega),_,_,_,_,_,_,HZ.out.put _ _⟩ (fun hHeld => ?_);have HB:=zqh hHeld.1;clear z0 z1 z2 z3 hB hX;clear hK K;(try simp only [zq,Act.put]);refine zqt (i:=14) (v:=?v14a17) ?y14a17 ?r14a17
  case y14a17 =>
    intro u hSu;go_simp;(try with_reducible rfl)
  (try simp only [zq,Act.put]);refine wpAnyH_done (by kernel_rfl) ?_ _;refine NoPanic.normal ?_;(go_wp2_with fail);refine bodyPost_ret (v:=.tuple #[.agg #[.slice A2 n2 c2,.slice P2 K2 d2],.int .i64 C]) ?_ rfl ?_
  · obtain ⟨r0,r1⟩:=HZ.out.got (.slice A2 n2 c2) (.slice P2 K2 d2)
    simp [results,Tryz.results114,go_sem,r0,r1]
  · exact ⟨_,_,_,_,_,_,rfl,fun hz => (HR.out hz).row2 (Nat.le_refl _) HZ.out (row_put _ _ _ _),HB.out⟩
theorem cell6 (A P : Option Addr) (n c Kp d0 : Nat) (m : PM) (A1 : Option Addr) (c1 : Nat) (x : List Int) (w : World) (hm : MemIn w A P n c Kp d0 m) (hx : Takes w 3 A1 c1 x) :
    Calls Tryz.prog 116 #[.agg #[.slice A n c,.slice P Kp d0],.slice A1 3 c1] w (MemOut P Kp (moveF m (x.getD 0 0) (x.getD 1 0) (x.getD 2 0)) (moveC m (x.getD 0 0) (x.getD 1 0) (x.getD 2 0)) w):=by
  obtain ⟨a,b,d,g,o,rfl,rfl,hg,c0,c1,c2,ha,hb,hd⟩:=hx.three;(try rw [hm.is.len1]);show Calls _ _ _ _ (MemOut P Kp (moveF m a b d) (moveC m a b d) w);have HM:=zqh hm;have HC:=zqh fun w (hm : MemIn w A P n c Kp d0 m) => move_atp A P n c Kp d0 m a b d w (zqh hm.is) (by have:=hm.n2; omega) (by have:=hm.k1; omega) hd.2
  generalize moveC m a b d = C at HC ⊢;generalize moveF m a b d = M at HC ⊢;have C0:=zqh c0;have C1:=zqh c1;have C2:=zqh c2;clear c0 c1 c2;clear hm hx;go_enter Tryz.func116,Tryz.ntmps116;go_upto_region 1 with fail
  generalize hw1 : World.alloc (World.alloc _ _) _ = w1;have kb : Below w.heap.size w w1:=by rw [← hw1]; exact al_two _ _ _
  have kx : Box w1 w.heap.size (.slice A n c) (.slice P Kp d0) 27:=by rw [← hw1]; exact (box_two w _ _ _ _ _ _).1
  have kz : Box w1 (w.heap.size + 1) (.slice none 0 0) (.slice none 0 0) 27:=by rw [← hw1]; exact (box_two w _ _ _ _ _ _).2
  have KS : Hid (w1.heap.size = w.heap.size + 1 + 1):=by show _ = _; rw [← hw1]; simp
  clear hw1;have X1:=zqh kx;have Z1:=zqh kz;have B1:=zqh kb;clear kb kx kz;refine wp_region_noPanic ?_;refine wp_region_held_drew (S:=fun a => Below w.heap.size w a ∧ Box a w.heap.size (.slice A n c) (.slice P Kp d0) 27 ∧ ∃ A9 P9 n9 c9 k9 d9,Box a (w.heap.size + 1) (.slice A9 n9 c9) (.slice P9 k9 d9) 27) (by kernel_rfl) ?_ (fun hHeld => ?_)
  · exact ⟨B1.out.drew,X1.out,_,_,_,_,_,_,Z1.out⟩
  refine zqt (i:=0) (v:=?v0a18) ?y0a18 ?r0a18
  case y0a18 =>
    intro u hSu;(try dsimp only at hSu);obtain ⟨q0,q1,_,_⟩:=hSu.2.1.use;go_simp;(try with_reducible rfl)
  (try simp only [zq,Act.put]);refine zqt (i:=1) (v:=?v1a18) ?y1a18 ?r1a18
  case y1a18 =>
    intro u hSu;go_simp;(try with_reducible rfl)
  (try simp only [zq,Act.put]);refine zqt (i:=2) (v:=?v2a18) ?y2a18 ?r2a18
  case y2a18 =>
    intro u hSu;go_simp;(try with_reducible rfl)
  (try simp only [zq,Act.put]);refine zqt (i:=3) (v:=?v3a18) ?y3a18 ?r3a18
  case y3a18 =>
    intro u hSu;(try dsimp only at hSu);have q0:=(hSu.1.cell (p:=⟨g,o,none⟩) hg).trans C0.out;have q1:=(hSu.1.cell (p:=⟨g,o + 1,none⟩) hg).trans C1.out;have q2:=(hSu.1.cell (p:=⟨g,o + 2,none⟩) hg).trans C2.out;go_simp;(try with_reducible rfl)
  (try simp only [zq,Act.put]);refine zqt (i:=4) (v:=?v4a18) ?y4a18 ?r4a18
  case y4a18 =>
    intro u hSu;go_simp;(try with_reducible rfl)
  (try simp only [zq,Act.put]);refine zqt (i:=5) (v:=?v5a18) ?y5a18 ?r5a18
  case y5a18 =>
    intro u hSu;go_simp;(try with_reducible rfl)
  (try simp only [zq,Act.put]);refine zqt (i:=6) (v:=?v6a18) ?y6a18 ?r6a18
  case y6a18 =>
    intro u hSu;(try dsimp only at hSu);have q0:=(hSu.1.cell (p:=⟨g,o,none⟩) hg).trans C0.out;have q1:=(hSu.1.cell (p:=⟨g,o + 1,none⟩) hg).trans C1.out;have q2:=(hSu.1.cell (p:=⟨g,o + 2,none⟩) hg).trans C2.out;go_simp;(try with_reducible rfl)
  (try simp only [zq,Act.put]);refine zqt (i:=7) (v:=?v7a18) ?y7a18 ?r7a18
  case y7a18 =>
    intro u hSu;go_simp;(try with_reducible rfl)
  (try simp only [zq,Act.put]);refine zqt (i:=8) (v:=?v8a18) ?y8a18 ?r8a18
  case y8a18 =>
    intro u hSu;go_simp;(try with_reducible rfl)
  (try simp only [zq,Act.put]);refine zqt (i:=9) (v:=?v9a18) ?y9a18 ?r9a18
  case y9a18 =>
    intro u hSu;(try dsimp only at hSu);have q0:=(hSu.1.cell (p:=⟨g,o,none⟩) hg).trans C0.out;have q1:=(hSu.1.cell (p:=⟨g,o + 1,none⟩) hg).trans C1.out;have q2:=(hSu.1.cell (p:=⟨g,o + 2,none⟩) hg).trans C2.out;go_simp;(try with_reducible rfl)
  (try simp only [zq,Act.put]);refine zqr 10 fun K hK => ?_
  go_simp;refine (HC.out _ (HM.out.keep hHeld.1)).mono ?_;rintro e u1 ⟨A2,n2,c2,P2,K2,d2,rfl,hr,bb⟩;obtain ⟨A9,P9,n9,c9,k9,d9,hz⟩:=hHeld.2.2;have hN : Below w.heap.size w u1 ∧ Box u1 w.heap.size (.slice A n c) (.slice P Kp d0) 27 ∧ ∃ A9 P9 n9 c9 k9 d9,Box u1 (w.heap.size + 1) (.slice A9 n9 c9) (.slice P9 k9 d9) 27:=⟨below_then hHeld.1 bb,hHeld.2.1.keep bb,A9,P9,n9,c9,k9,d9,hz.keep bb⟩;have HZ:=zqh (hz.keep bb);have HR : Hid (C = 0 → MemP P Kp w.heap.size u1 (.agg #[.slice A2 n2 c2,.slice P2 K2 d2]) M):=zqh fun h => hr.le hHeld.1.size
  (go_wp2_with fail);clear bb hr hz;clear hHeld;refine hK.out _ _ hN (fun hHeld => ?_);clear hK K hN;(try simp only [zq,Act.put]);refine zqt (i:=11) (v:=?v11a18) ?y11a18 ?r11a18
  case y11a18 =>
    intro u hSu;go_simp;(try with_reducible rfl)
  (try simp only [zq,Act.put]);refine zqt (i:=12) (v:=?v12a18) ?y12a18 ?r12a18
  case y12a18 =>
    intro u hSu;go_simp;(try with_reducible rfl)
  (try simp only [zq,Act.put]);refine zqr 13 fun K hK => ?_
  obtain ⟨z0,z1,z2,z3⟩:=HZ.out.use;have hB:=hHeld.1;have hX:=hHeld.2.1;go_simp;(go_wp2_with fail);refine hK.out _ _ ⟨(hB.setCell (by simp) _).setCell (by simp) _,hX.row (row_put _ _ _ _) (by omega),_,_,_,_,_,_,HZ.out.put _ _⟩ (fun hHeld => ?_);have HB:=zqh hHeld.1;clear z0 z1 z2 z3 hB hX;clear hK K;(try simp only [zq,Act.put]);refine zqt (i:=14) (v:=?v14a18) ?y14a18 ?r14a18
  case y14a18 =>
    intro u hSu;go_simp;(try with_reducible rfl)
  (try simp only [zq,Act.put]);refine wpAnyH_done (by kernel_rfl) ?_ _;refine NoPanic.normal ?_;(go_wp2_with fail);refine bodyPost_ret (v:=.tuple #[.agg #[.slice A2 n2 c2,.slice P2 K2 d2],.int .i64 C]) ?_ rfl ?_
  · obtain ⟨r0,r1⟩:=HZ.out.got (.slice A2 n2 c2) (.slice P2 K2 d2)
    simp [results,Tryz.results116,go_sem,r0,r1]
  · exact ⟨_,_,_,_,_,_,rfl,fun hz => (HR.out hz).row2 (Nat.le_refl _) HZ.out (row_put _ _ _ _),HB.out⟩
end Go.Proofs.YtlgnijhemfkflaaGreatDoor
