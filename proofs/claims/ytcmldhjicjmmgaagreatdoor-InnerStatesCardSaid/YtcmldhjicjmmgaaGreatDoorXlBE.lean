/- Part 31. -/
import Derived.Test.YtcmldhjicjmmgaaGreatDoorXlBD
set_option linter.unusedVariables false
set_option linter.unusedSimpArgs false
set_option maxRecDepth 100000
set_option maxHeartbeats 4000000

namespace Go.Proofs.YtcmldhjicjmmgaaGreatDoor
open Go.RowKit


theorem cell1 (A P : Option Addr) (n c Kp d0 : Nat) (m : PM) (A1 : Option Addr) (c1 : Nat) (x : List Int) (w : World) (hm : MemIn w A P n c Kp d0 m) (hx : Takes w 2 A1 c1 x) :
    Calls Tryz.prog 145 #[.agg #[.slice A n c,.slice P Kp d0],.slice A1 2 c1] w (MemOut P Kp (storeF m (x.getD 1 0) (x.getD 0 0)) (cellC m.1.length (x.getD 1 0)) w):=by
  obtain ⟨a,b,g,o,rfl,rfl,hg,c0,c1,ha,hb⟩:=hx.two;(try rw [hm.is.len1]);show Calls _ _ _ _ (MemOut P Kp (storeF m b a) (cellC n b) w);have HM:=zqh hm;have HC:=zqh fun w (hm : MemIn w A P n c Kp d0 m) => store_atp A P n c Kp d0 m b a w (zqh hm.is) (by have:=hm.n2; omega) (by have:=hm.k1; omega)
  generalize cellC n b = C at HC ⊢;generalize storeF m b a = M at HC ⊢;have C0:=zqh c0;have C1:=zqh c1;clear c0 c1;clear hm hx;go_enter Tryz.func145,Tryz.ntmps145;go_upto_region 1 with fail
  generalize hw1 : World.alloc (World.alloc _ _) _ = w1;have kb : Below w.heap.size w w1:=by rw [← hw1]; exact al_two _ _ _
  have kx : Box w1 w.heap.size (.slice A n c) (.slice P Kp d0) 29:=by rw [← hw1]; exact (box_two w _ _ _ _ _ _).1
  have kz : Box w1 (w.heap.size + 1) (.slice none 0 0) (.slice none 0 0) 29:=by rw [← hw1]; exact (box_two w _ _ _ _ _ _).2
  have KS : Hid (w1.heap.size = w.heap.size + 1 + 1):=by show _ = _; rw [← hw1]; simp
  clear hw1;have X1:=zqh kx;have Z1:=zqh kz;have B1:=zqh kb;clear kb kx kz;refine wp_region_noPanic ?_;refine wp_region_held_drew (S:=fun a => Below w.heap.size w a ∧ Box a w.heap.size (.slice A n c) (.slice P Kp d0) 29 ∧ ∃ A9 P9 n9 c9 k9 d9,Box a (w.heap.size + 1) (.slice A9 n9 c9) (.slice P9 k9 d9) 29) (by kernel_rfl) ?_ (fun hHeld => ?_)
  · exact ⟨B1.out.drew,X1.out,_,_,_,_,_,_,Z1.out⟩
  refine zqt (i:=0) (v:=?v0a13) ?y0a13 ?r0a13
  case y0a13 =>
    intro u hSu;(try dsimp only at hSu);obtain ⟨q0,q1,_,_⟩:=hSu.2.1.use;go_simp;(try with_reducible rfl)
  (try simp only [zq,Act.put]);refine zqa 1 ?_;refine zqa 2 ?_;refine zqf 3 (fun u hSu => And.intro ((hSu.1.cell (p:=⟨g,o,none⟩) hg).trans C0.out) ((hSu.1.cell (p:=⟨g,o + 1,none⟩) hg).trans C1.out)) ?_;refine zqa 4 ?_;refine zqa 5 ?_;refine zqf 6 (fun u hSu => And.intro ((hSu.1.cell (p:=⟨g,o,none⟩) hg).trans C0.out) ((hSu.1.cell (p:=⟨g,o + 1,none⟩) hg).trans C1.out)) ?_;refine zqr 7 fun K hK => ?_
  go_simp;refine (HC.out _ (HM.out.keep hHeld.1)).mono ?_;rintro e u1 ⟨A2,n2,c2,P2,K2,d2,rfl,hr,bb⟩;obtain ⟨A9,P9,n9,c9,k9,d9,hz⟩:=hHeld.2.2;have hN : Below w.heap.size w u1 ∧ Box u1 w.heap.size (.slice A n c) (.slice P Kp d0) 29 ∧ ∃ A9 P9 n9 c9 k9 d9,Box u1 (w.heap.size + 1) (.slice A9 n9 c9) (.slice P9 k9 d9) 29:=⟨below_then hHeld.1 bb,hHeld.2.1.keep bb,A9,P9,n9,c9,k9,d9,hz.keep bb⟩;have HZ:=zqh (hz.keep bb);have HR : Hid (C = 0 → MemP P Kp w.heap.size u1 (.agg #[.slice A2 n2 c2,.slice P2 K2 d2]) M):=zqh fun h => hr.le hHeld.1.size
  (go_wp2_with fail);clear bb hr hz;clear hHeld;refine hK.out _ _ hN (fun hHeld => ?_);clear hK K hN;(try simp only [zq,Act.put]);refine zqa 8 ?_;refine zqa 9 ?_;refine zqr 10 fun K hK => ?_
  obtain ⟨z0,z1,z2,z3⟩:=HZ.out.use;have hB:=hHeld.1;have hX:=hHeld.2.1;go_simp;(go_wp2_with fail);refine hK.out _ _ ⟨(hB.setCell (by simp) _).setCell (by simp) _,hX.row (row_put _ _ _ _) (by omega),_,_,_,_,_,_,HZ.out.put _ _⟩ (fun hHeld => ?_);have HB:=zqh hHeld.1;clear z0 z1 z2 z3 hB hX;clear hK K;(try simp only [zq,Act.put]);refine zqa 11 ?_;refine wpAnyH_done (by kernel_rfl) ?_ _;refine NoPanic.normal ?_;(go_wp2_with fail);refine bodyPost_ret (v:=.tuple #[.agg #[.slice A2 n2 c2,.slice P2 K2 d2],.int .i64 C]) ?_ rfl ?_
  · obtain ⟨r0,r1⟩:=HZ.out.got (.slice A2 n2 c2) (.slice P2 K2 d2)
    simp [results,Tryz.results145,go_sem,r0,r1]
  · exact ⟨_,_,_,_,_,_,rfl,fun hz => (HR.out hz).row2 (Nat.le_refl _) HZ.out (row_put _ _ _ _),HB.out⟩
theorem cell2 (A P : Option Addr) (n c Kp d0 : Nat) (m : PM) (A1 : Option Addr) (c1 : Nat) (x : List Int) (w : World) (hm : MemIn w A P n c Kp d0 m) (hx : Takes w 2 A1 c1 x) :
    Calls Tryz.prog 147 #[.agg #[.slice A n c,.slice P Kp d0],.slice A1 2 c1] w (MemOut P Kp (storeF m (x.getD 1 0) (wrap64 (fetchF m (x.getD 1 0) + (x.getD 0 0)))) (cellC m.1.length (x.getD 1 0)) w):=by
  obtain ⟨a,b,g,o,rfl,rfl,hg,c0,c1,ha,hb⟩:=hx.two;(try rw [hm.is.len1]);show Calls _ _ _ _ (MemOut P Kp (storeF m b (wrap64 (fetchF m b + a))) (cellC n b) w);have HM:=zqh hm;have HC:=zqh fun w (hm : MemIn w A P n c Kp d0 m) => raised_any A P n c Kp d0 m b a w hm
  generalize cellC n b = C at HC ⊢;generalize storeF m b (wrap64 (fetchF m b + a)) = M at HC ⊢;have C0:=zqh c0;have C1:=zqh c1;clear c0 c1;clear hm hx;go_enter Tryz.func147,Tryz.ntmps147;go_upto_region 1 with fail
  generalize hw1 : World.alloc (World.alloc _ _) _ = w1;have kb : Below w.heap.size w w1:=by rw [← hw1]; exact al_two _ _ _
  have kx : Box w1 w.heap.size (.slice A n c) (.slice P Kp d0) 29:=by rw [← hw1]; exact (box_two w _ _ _ _ _ _).1
  have kz : Box w1 (w.heap.size + 1) (.slice none 0 0) (.slice none 0 0) 29:=by rw [← hw1]; exact (box_two w _ _ _ _ _ _).2
  have KS : Hid (w1.heap.size = w.heap.size + 1 + 1):=by show _ = _; rw [← hw1]; simp
  clear hw1;have X1:=zqh kx;have Z1:=zqh kz;have B1:=zqh kb;clear kb kx kz;refine wp_region_noPanic ?_;refine wp_region_held_drew (S:=fun a => Below w.heap.size w a ∧ Box a w.heap.size (.slice A n c) (.slice P Kp d0) 29 ∧ ∃ A9 P9 n9 c9 k9 d9,Box a (w.heap.size + 1) (.slice A9 n9 c9) (.slice P9 k9 d9) 29) (by kernel_rfl) ?_ (fun hHeld => ?_)
  · exact ⟨B1.out.drew,X1.out,_,_,_,_,_,_,Z1.out⟩
  refine zqt (i:=0) (v:=?v0a14) ?y0a14 ?r0a14
  case y0a14 =>
    intro u hSu;(try dsimp only at hSu);obtain ⟨q0,q1,_,_⟩:=hSu.2.1.use;go_simp;(try with_reducible rfl)
  (try simp only [zq,Act.put]);refine zqa 1 ?_;refine zqa 2 ?_;refine zqf 3 (fun u hSu => And.intro ((hSu.1.cell (p:=⟨g,o,none⟩) hg).trans C0.out) ((hSu.1.cell (p:=⟨g,o + 1,none⟩) hg).trans C1.out)) ?_;refine zqa 4 ?_;refine zqa 5 ?_;refine zqf 6 (fun u hSu => And.intro ((hSu.1.cell (p:=⟨g,o,none⟩) hg).trans C0.out) ((hSu.1.cell (p:=⟨g,o + 1,none⟩) hg).trans C1.out)) ?_;refine zqr 7 fun K hK => ?_
  go_simp;refine (HC.out _ (HM.out.keep hHeld.1)).mono ?_;rintro e u1 ⟨A2,n2,c2,P2,K2,d2,rfl,hr,bb⟩;obtain ⟨A9,P9,n9,c9,k9,d9,hz⟩:=hHeld.2.2;have hN : Below w.heap.size w u1 ∧ Box u1 w.heap.size (.slice A n c) (.slice P Kp d0) 29 ∧ ∃ A9 P9 n9 c9 k9 d9,Box u1 (w.heap.size + 1) (.slice A9 n9 c9) (.slice P9 k9 d9) 29:=⟨below_then hHeld.1 bb,hHeld.2.1.keep bb,A9,P9,n9,c9,k9,d9,hz.keep bb⟩;have HZ:=zqh (hz.keep bb);have HR : Hid (C = 0 → MemP P Kp w.heap.size u1 (.agg #[.slice A2 n2 c2,.slice P2 K2 d2]) M):=zqh fun h => (hr h).le hHeld.1.size
  (go_wp2_with fail);clear bb hr hz;clear hHeld;refine hK.out _ _ hN (fun hHeld => ?_);clear hK K hN;(try simp only [zq,Act.put]);refine zqa 8 ?_;refine zqa 9 ?_;refine zqr 10 fun K hK => ?_
  obtain ⟨z0,z1,z2,z3⟩:=HZ.out.use;have hB:=hHeld.1;have hX:=hHeld.2.1;go_simp;(go_wp2_with fail);refine hK.out _ _ ⟨(hB.setCell (by simp) _).setCell (by simp) _,hX.row (row_put _ _ _ _) (by omega),_,_,_,_,_,_,HZ.out.put _ _⟩ (fun hHeld => ?_);have HB:=zqh hHeld.1;clear z0 z1 z2 z3 hB hX;clear hK K;(try simp only [zq,Act.put]);refine zqa 11 ?_;refine wpAnyH_done (by kernel_rfl) ?_ _;refine NoPanic.normal ?_;(go_wp2_with fail);refine bodyPost_ret (v:=.tuple #[.agg #[.slice A2 n2 c2,.slice P2 K2 d2],.int .i64 C]) ?_ rfl ?_
  · obtain ⟨r0,r1⟩:=HZ.out.got (.slice A2 n2 c2) (.slice P2 K2 d2)
    simp [results,Tryz.results147,go_sem,r0,r1]
  · exact ⟨_,_,_,_,_,_,rfl,fun hz => (HR.out hz).row2 (Nat.le_refl _) HZ.out (row_put _ _ _ _),HB.out⟩
theorem cell3 (A P : Option Addr) (n c Kp d0 : Nat) (m : PM) (A1 : Option Addr) (c1 : Nat) (x : List Int) (w : World) (hm : MemIn w A P n c Kp d0 m) (hx : Takes w 2 A1 c1 x) :
    Calls Tryz.prog 150 #[.agg #[.slice A n c,.slice P Kp d0],.slice A1 2 c1] w (MemOut P Kp (writeF m (x.getD 1 0) [lowB (x.getD 0 0)]) (codeF (okB m.1.length (x.getD 1 0) 1)) w):=by
  obtain ⟨a,b,g,o,rfl,rfl,hg,c0,c1,ha,hb⟩:=hx.two;(try rw [hm.is.len1]);show Calls _ _ _ _ (MemOut P Kp (writeF m b [lowB a]) (codeF (okB n b 1)) w);have HM:=zqh hm;have HC:=zqh fun w (hm : MemIn w A P n c Kp d0 m) => storeByte_atp A P n c Kp d0 m b a w (zqh hm.is) (by have:=hm.n2; omega) (by have:=hm.k1; omega)
  generalize codeF (okB n b 1) = C at HC ⊢;generalize writeF m b [lowB a] = M at HC ⊢;have C0:=zqh c0;have C1:=zqh c1;clear c0 c1;clear hm hx;go_enter Tryz.func150,Tryz.ntmps150;go_upto_region 1 with fail
  generalize hw1 : World.alloc (World.alloc _ _) _ = w1;have kb : Below w.heap.size w w1:=by rw [← hw1]; exact al_two _ _ _
  have kx : Box w1 w.heap.size (.slice A n c) (.slice P Kp d0) 29:=by rw [← hw1]; exact (box_two w _ _ _ _ _ _).1
  have kz : Box w1 (w.heap.size + 1) (.slice none 0 0) (.slice none 0 0) 29:=by rw [← hw1]; exact (box_two w _ _ _ _ _ _).2
  have KS : Hid (w1.heap.size = w.heap.size + 1 + 1):=by show _ = _; rw [← hw1]; simp
  clear hw1;have X1:=zqh kx;have Z1:=zqh kz;have B1:=zqh kb;clear kb kx kz;refine wp_region_noPanic ?_;refine wp_region_held_drew (S:=fun a => Below w.heap.size w a ∧ Box a w.heap.size (.slice A n c) (.slice P Kp d0) 29 ∧ ∃ A9 P9 n9 c9 k9 d9,Box a (w.heap.size + 1) (.slice A9 n9 c9) (.slice P9 k9 d9) 29) (by kernel_rfl) ?_ (fun hHeld => ?_)
  · exact ⟨B1.out.drew,X1.out,_,_,_,_,_,_,Z1.out⟩
  refine zqt (i:=0) (v:=?v0a15) ?y0a15 ?r0a15
  case y0a15 =>
    intro u hSu;(try dsimp only at hSu);obtain ⟨q0,q1,_,_⟩:=hSu.2.1.use;go_simp;(try with_reducible rfl)
  (try simp only [zq,Act.put]);refine zqa 1 ?_;refine zqa 2 ?_;refine zqf 3 (fun u hSu => And.intro ((hSu.1.cell (p:=⟨g,o,none⟩) hg).trans C0.out) ((hSu.1.cell (p:=⟨g,o + 1,none⟩) hg).trans C1.out)) ?_;refine zqa 4 ?_;refine zqa 5 ?_;refine zqf 6 (fun u hSu => And.intro ((hSu.1.cell (p:=⟨g,o,none⟩) hg).trans C0.out) ((hSu.1.cell (p:=⟨g,o + 1,none⟩) hg).trans C1.out)) ?_;refine zqr 7 fun K hK => ?_
  go_simp;refine (HC.out _ (HM.out.keep hHeld.1)).mono ?_;rintro e u1 ⟨A2,n2,c2,P2,K2,d2,rfl,hr,bb⟩;obtain ⟨A9,P9,n9,c9,k9,d9,hz⟩:=hHeld.2.2;have hN : Below w.heap.size w u1 ∧ Box u1 w.heap.size (.slice A n c) (.slice P Kp d0) 29 ∧ ∃ A9 P9 n9 c9 k9 d9,Box u1 (w.heap.size + 1) (.slice A9 n9 c9) (.slice P9 k9 d9) 29:=⟨below_then hHeld.1 bb,hHeld.2.1.keep bb,A9,P9,n9,c9,k9,d9,hz.keep bb⟩;have HZ:=zqh (hz.keep bb);have HR : Hid (C = 0 → MemP P Kp w.heap.size u1 (.agg #[.slice A2 n2 c2,.slice P2 K2 d2]) M):=zqh fun h => hr.le hHeld.1.size
  (go_wp2_with fail);clear bb hr hz;clear hHeld;refine hK.out _ _ hN (fun hHeld => ?_);clear hK K hN;(try simp only [zq,Act.put]);refine zqa 8 ?_;refine zqa 9 ?_;refine zqr 10 fun K hK => ?_
  obtain ⟨z0,z1,z2,z3⟩:=HZ.out.use;have hB:=hHeld.1;have hX:=hHeld.2.1;go_simp;(go_wp2_with fail);refine hK.out _ _ ⟨(hB.setCell (by simp) _).setCell (by simp) _,hX.row (row_put _ _ _ _) (by omega),_,_,_,_,_,_,HZ.out.put _ _⟩ (fun hHeld => ?_);have HB:=zqh hHeld.1;clear z0 z1 z2 z3 hB hX;clear hK K;(try simp only [zq,Act.put]);refine zqa 11 ?_;refine wpAnyH_done (by kernel_rfl) ?_ _;refine NoPanic.normal ?_;(go_wp2_with fail);refine bodyPost_ret (v:=.tuple #[.agg #[.slice A2 n2 c2,.slice P2 K2 d2],.int .i64 C]) ?_ rfl ?_
  · obtain ⟨r0,r1⟩:=HZ.out.got (.slice A2 n2 c2) (.slice P2 K2 d2)
    simp [results,Tryz.results150,go_sem,r0,r1]
  · exact ⟨_,_,_,_,_,_,rfl,fun hz => (HR.out hz).row2 (Nat.le_refl _) HZ.out (row_put _ _ _ _),HB.out⟩
theorem cell4 (A P : Option Addr) (n c Kp d0 : Nat) (m : PM) (A1 : Option Addr) (c1 : Nat) (x : List Int) (w : World) (hm : MemIn w A P n c Kp d0 m) (hx : Takes w 3 A1 c1 x) :
    Calls Tryz.prog 154 #[.agg #[.slice A n c,.slice P Kp d0],.slice A1 3 c1] w (MemOut P Kp (storeF (storeF m (x.getD 2 0) (x.getD 1 0)) (wrap64 ((x.getD 2 0) + 8)) (x.getD 0 0)) (twoC m.1.length (x.getD 2 0)) w):=by
  obtain ⟨a,b,d,g,o,rfl,rfl,hg,c0,c1,c2,ha,hb,hd⟩:=hx.three;(try rw [hm.is.len1]);show Calls _ _ _ _ (MemOut P Kp (storeF (storeF m d b) (wrap64 (d + 8)) a) (twoC n d) w);have HM:=zqh hm;have HC:=zqh fun w (hm : MemIn w A P n c Kp d0 m) => bothStored_any A P n c Kp d0 m d b a w hm
  generalize twoC n d = C at HC ⊢;generalize storeF (storeF m d b) (wrap64 (d + 8)) a = M at HC ⊢;have C0:=zqh c0;have C1:=zqh c1;have C2:=zqh c2;clear c0 c1 c2;clear hm hx;go_enter Tryz.func154,Tryz.ntmps154;go_upto_region 1 with fail
  generalize hw1 : World.alloc (World.alloc _ _) _ = w1;have kb : Below w.heap.size w w1:=by rw [← hw1]; exact al_two _ _ _
  have kx : Box w1 w.heap.size (.slice A n c) (.slice P Kp d0) 29:=by rw [← hw1]; exact (box_two w _ _ _ _ _ _).1
  have kz : Box w1 (w.heap.size + 1) (.slice none 0 0) (.slice none 0 0) 29:=by rw [← hw1]; exact (box_two w _ _ _ _ _ _).2
  have KS : Hid (w1.heap.size = w.heap.size + 1 + 1):=by show _ = _; rw [← hw1]; simp
  clear hw1;have X1:=zqh kx;have Z1:=zqh kz;have B1:=zqh kb;clear kb kx kz;refine wp_region_noPanic ?_;refine wp_region_held_drew (S:=fun a => Below w.heap.size w a ∧ Box a w.heap.size (.slice A n c) (.slice P Kp d0) 29 ∧ ∃ A9 P9 n9 c9 k9 d9,Box a (w.heap.size + 1) (.slice A9 n9 c9) (.slice P9 k9 d9) 29) (by kernel_rfl) ?_ (fun hHeld => ?_)
  · exact ⟨B1.out.drew,X1.out,_,_,_,_,_,_,Z1.out⟩
  refine zqt (i:=0) (v:=?v0a16) ?y0a16 ?r0a16
  case y0a16 =>
    intro u hSu;(try dsimp only at hSu);obtain ⟨q0,q1,_,_⟩:=hSu.2.1.use;go_simp;(try with_reducible rfl)
  (try simp only [zq,Act.put]);refine zqa 1 ?_;refine zqa 2 ?_;refine zqf 3 (fun u hSu => And.intro ((hSu.1.cell (p:=⟨g,o,none⟩) hg).trans C0.out) (And.intro ((hSu.1.cell (p:=⟨g,o + 1,none⟩) hg).trans C1.out) ((hSu.1.cell (p:=⟨g,o + 2,none⟩) hg).trans C2.out))) ?_;refine zqa 4 ?_;refine zqa 5 ?_;refine zqf 6 (fun u hSu => And.intro ((hSu.1.cell (p:=⟨g,o,none⟩) hg).trans C0.out) (And.intro ((hSu.1.cell (p:=⟨g,o + 1,none⟩) hg).trans C1.out) ((hSu.1.cell (p:=⟨g,o + 2,none⟩) hg).trans C2.out))) ?_;refine zqa 7 ?_;refine zqa 8 ?_;refine zqf 9 (fun u hSu => And.intro ((hSu.1.cell (p:=⟨g,o,none⟩) hg).trans C0.out) (And.intro ((hSu.1.cell (p:=⟨g,o + 1,none⟩) hg).trans C1.out) ((hSu.1.cell (p:=⟨g,o + 2,none⟩) hg).trans C2.out))) ?_;refine zqr 10 fun K hK => ?_
  go_simp;refine (HC.out _ (HM.out.keep hHeld.1)).mono ?_;rintro e u1 ⟨A2,n2,c2,P2,K2,d2,rfl,hr,bb⟩;obtain ⟨A9,P9,n9,c9,k9,d9,hz⟩:=hHeld.2.2;have hN : Below w.heap.size w u1 ∧ Box u1 w.heap.size (.slice A n c) (.slice P Kp d0) 29 ∧ ∃ A9 P9 n9 c9 k9 d9,Box u1 (w.heap.size + 1) (.slice A9 n9 c9) (.slice P9 k9 d9) 29:=⟨below_then hHeld.1 bb,hHeld.2.1.keep bb,A9,P9,n9,c9,k9,d9,hz.keep bb⟩;have HZ:=zqh (hz.keep bb);have HR : Hid (C = 0 → MemP P Kp w.heap.size u1 (.agg #[.slice A2 n2 c2,.slice P2 K2 d2]) M):=zqh fun h => (hr h).le hHeld.1.size
  (go_wp2_with fail);clear bb hr hz;clear hHeld;refine hK.out _ _ hN (fun hHeld => ?_);clear hK K hN;(try simp only [zq,Act.put]);refine zqa 11 ?_;refine zqa 12 ?_;refine zqr 13 fun K hK => ?_
  obtain ⟨z0,z1,z2,z3⟩:=HZ.out.use;have hB:=hHeld.1;have hX:=hHeld.2.1;go_simp;(go_wp2_with fail);refine hK.out _ _ ⟨(hB.setCell (by simp) _).setCell (by simp) _,hX.row (row_put _ _ _ _) (by omega),_,_,_,_,_,_,HZ.out.put _ _⟩ (fun hHeld => ?_);have HB:=zqh hHeld.1;clear z0 z1 z2 z3 hB hX;clear hK K;(try simp only [zq,Act.put]);refine zqa 14 ?_;refine wpAnyH_done (by kernel_rfl) ?_ _;refine NoPanic.normal ?_;(go_wp2_with fail);refine bodyPost_ret (v:=.tuple #[.agg #[.slice A2 n2 c2,.slice P2 K2 d2],.int .i64 C]) ?_ rfl ?_
  · obtain ⟨r0,r1⟩:=HZ.out.got (.slice A2 n2 c2) (.slice P2 K2 d2)
    simp [results,Tryz.results154,go_sem,r0,r1]
  · exact ⟨_,_,_,_,_,_,rfl,fun hz => (HR.out hz).row2 (Nat.le_refl _) HZ.out (row_put _ _ _ _),HB.out⟩
theorem cell5 (A P : Option Addr) (n c Kp d0 : Nat) (m : PM) (A1 : Option Addr) (c1 : Nat) (x : List Int) (w : World) (hm : MemIn w A P n c Kp d0 m) (hx : Takes w 3 A1 c1 x) :
    Calls Tryz.prog 156 #[.agg #[.slice A n c,.slice P Kp d0],.slice A1 3 c1] w (MemOut P Kp (fillF m (x.getD 0 0) (x.getD 1 0) (x.getD 2 0)) (codeF (okB m.1.length (x.getD 0 0) (x.getD 1 0))) w):=by
  obtain ⟨a,b,d,g,o,rfl,rfl,hg,c0,c1,c2,ha,hb,hd⟩:=hx.three;(try rw [hm.is.len1]);show Calls _ _ _ _ (MemOut P Kp (fillF m a b d) (codeF (okB n a b)) w);have HM:=zqh hm;have HC:=zqh fun w (hm : MemIn w A P n c Kp d0 m) => fill_atp A P n c Kp d0 m a b d w (zqh hm.is) (hm.n2) (by have:=hm.k1; omega) hb.2
  generalize codeF (okB n a b) = C at HC ⊢;generalize fillF m a b d = M at HC ⊢;have C0:=zqh c0;have C1:=zqh c1;have C2:=zqh c2;clear c0 c1 c2;clear hm hx;go_enter Tryz.func156,Tryz.ntmps156;go_upto_region 1 with fail
  generalize hw1 : World.alloc (World.alloc _ _) _ = w1;have kb : Below w.heap.size w w1:=by rw [← hw1]; exact al_two _ _ _
  have kx : Box w1 w.heap.size (.slice A n c) (.slice P Kp d0) 29:=by rw [← hw1]; exact (box_two w _ _ _ _ _ _).1
  have kz : Box w1 (w.heap.size + 1) (.slice none 0 0) (.slice none 0 0) 29:=by rw [← hw1]; exact (box_two w _ _ _ _ _ _).2
  have KS : Hid (w1.heap.size = w.heap.size + 1 + 1):=by show _ = _; rw [← hw1]; simp
  clear hw1;have X1:=zqh kx;have Z1:=zqh kz;have B1:=zqh kb;clear kb kx kz;refine wp_region_noPanic ?_;refine wp_region_held_drew (S:=fun a => Below w.heap.size w a ∧ Box a w.heap.size (.slice A n c) (.slice P Kp d0) 29 ∧ ∃ A9 P9 n9 c9 k9 d9,Box a (w.heap.size + 1) (.slice A9 n9 c9) (.slice P9 k9 d9) 29) (by kernel_rfl) ?_ (fun hHeld => ?_)
  · exact ⟨B1.out.drew,X1.out,_,_,_,_,_,_,Z1.out⟩
  refine zqt (i:=0) (v:=?v0a17) ?y0a17 ?r0a17
  case y0a17 =>
    intro u hSu;(try dsimp only at hSu);obtain ⟨q0,q1,_,_⟩:=hSu.2.1.use;go_simp;(try with_reducible rfl)
  (try simp only [zq,Act.put]);refine zqa 1 ?_;refine zqa 2 ?_;refine zqf 3 (fun u hSu => And.intro ((hSu.1.cell (p:=⟨g,o,none⟩) hg).trans C0.out) (And.intro ((hSu.1.cell (p:=⟨g,o + 1,none⟩) hg).trans C1.out) ((hSu.1.cell (p:=⟨g,o + 2,none⟩) hg).trans C2.out))) ?_;refine zqa 4 ?_;refine zqa 5 ?_;refine zqf 6 (fun u hSu => And.intro ((hSu.1.cell (p:=⟨g,o,none⟩) hg).trans C0.out) (And.intro ((hSu.1.cell (p:=⟨g,o + 1,none⟩) hg).trans C1.out) ((hSu.1.cell (p:=⟨g,o + 2,none⟩) hg).trans C2.out))) ?_;refine zqa 7 ?_;refine zqa 8 ?_;refine zqf 9 (fun u hSu => And.intro ((hSu.1.cell (p:=⟨g,o,none⟩) hg).trans C0.out) (And.intro ((hSu.1.cell (p:=⟨g,o + 1,none⟩) hg).trans C1.out) ((hSu.1.cell (p:=⟨g,o + 2,none⟩) hg).trans C2.out))) ?_;refine zqr 10 fun K hK => ?_
  go_simp;refine (HC.out _ (HM.out.keep hHeld.1)).mono ?_;rintro e u1 ⟨A2,n2,c2,P2,K2,d2,rfl,hr,bb⟩;obtain ⟨A9,P9,n9,c9,k9,d9,hz⟩:=hHeld.2.2;have hN : Below w.heap.size w u1 ∧ Box u1 w.heap.size (.slice A n c) (.slice P Kp d0) 29 ∧ ∃ A9 P9 n9 c9 k9 d9,Box u1 (w.heap.size + 1) (.slice A9 n9 c9) (.slice P9 k9 d9) 29:=⟨below_then hHeld.1 bb,hHeld.2.1.keep bb,A9,P9,n9,c9,k9,d9,hz.keep bb⟩;have HZ:=zqh (hz.keep bb);have HR : Hid (C = 0 → MemP P Kp w.heap.size u1 (.agg #[.slice A2 n2 c2,.slice P2 K2 d2]) M):=zqh fun h => hr.le hHeld.1.size
  (go_wp2_with fail);clear bb hr hz;clear hHeld;refine hK.out _ _ hN (fun hHeld => ?_);clear hK K hN;(try simp only [zq,Act.put]);refine zqa 11 ?_;refine zqa 12 ?_;refine zqr 13 fun K hK => ?_
  obtain ⟨z0,z1,z2,z3⟩:=HZ.out.use;have hB:=hHeld.1;have hX:=hHeld.2.1;go_simp;(go_wp2_with fail);refine hK.out _ _ ⟨(hB.setCell (by simp) _).setCell (by simp) _,hX.row (row_put _ _ _ _) (by omega),_,_,_,_,_,_,HZ.out.put _ _⟩ (fun hHeld => ?_);have HB:=zqh hHeld.1;clear z0 z1 z2 z3 hB hX;clear hK K;(try simp only [zq,Act.put]);refine zqa 14 ?_;refine wpAnyH_done (by kernel_rfl) ?_ _;refine NoPanic.normal ?_;(go_wp2_with fail);refine bodyPost_ret (v:=.tuple #[.agg #[.slice A2 n2 c2,.slice P2 K2 d2],.int .i64 C]) ?_ rfl ?_
  · obtain ⟨r0,r1⟩:=HZ.out.got (.slice A2 n2 c2) (.slice P2 K2 d2)
    simp [results,Tryz.results156,go_sem,r0,r1]
  · exact ⟨_,_,_,_,_,_,rfl,fun hz => (HR.out hz).row2 (Nat.le_refl _) HZ.out (row_put _ _ _ _),HB.out⟩
theorem cell6 (A P : Option Addr) (n c Kp d0 : Nat) (m : PM) (A1 : Option Addr) (c1 : Nat) (x : List Int) (w : World) (hm : MemIn w A P n c Kp d0 m) (hx : Takes w 3 A1 c1 x) :
    Calls Tryz.prog 158 #[.agg #[.slice A n c,.slice P Kp d0],.slice A1 3 c1] w (MemOut P Kp (moveF m (x.getD 0 0) (x.getD 1 0) (x.getD 2 0)) (moveC m (x.getD 0 0) (x.getD 1 0) (x.getD 2 0)) w):=by
  obtain ⟨a,b,d,g,o,rfl,rfl,hg,c0,c1,c2,ha,hb,hd⟩:=hx.three;(try rw [hm.is.len1]);show Calls _ _ _ _ (MemOut P Kp (moveF m a b d) (moveC m a b d) w);have HM:=zqh hm;have HC:=zqh fun w (hm : MemIn w A P n c Kp d0 m) => move_atp A P n c Kp d0 m a b d w (zqh hm.is) (by have:=hm.n2; omega) (by have:=hm.k1; omega) hd.2
  generalize moveC m a b d = C at HC ⊢;generalize moveF m a b d = M at HC ⊢;have C0:=zqh c0;have C1:=zqh c1;have C2:=zqh c2;clear c0 c1 c2;clear hm hx;go_enter Tryz.func158,Tryz.ntmps158;go_upto_region 1 with fail
  generalize hw1 : World.alloc (World.alloc _ _) _ = w1;have kb : Below w.heap.size w w1:=by rw [← hw1]; exact al_two _ _ _
  have kx : Box w1 w.heap.size (.slice A n c) (.slice P Kp d0) 29:=by rw [← hw1]; exact (box_two w _ _ _ _ _ _).1
  have kz : Box w1 (w.heap.size + 1) (.slice none 0 0) (.slice none 0 0) 29:=by rw [← hw1]; exact (box_two w _ _ _ _ _ _).2
  have KS : Hid (w1.heap.size = w.heap.size + 1 + 1):=by show _ = _; rw [← hw1]; simp
  clear hw1;have X1:=zqh kx;have Z1:=zqh kz;have B1:=zqh kb;clear kb kx kz;refine wp_region_noPanic ?_;refine wp_region_held_drew (S:=fun a => Below w.heap.size w a ∧ Box a w.heap.size (.slice A n c) (.slice P Kp d0) 29 ∧ ∃ A9 P9 n9 c9 k9 d9,Box a (w.heap.size + 1) (.slice A9 n9 c9) (.slice P9 k9 d9) 29) (by kernel_rfl) ?_ (fun hHeld => ?_)
  · exact ⟨B1.out.drew,X1.out,_,_,_,_,_,_,Z1.out⟩
  refine zqt (i:=0) (v:=?v0a18) ?y0a18 ?r0a18
  case y0a18 =>
    intro u hSu;(try dsimp only at hSu);obtain ⟨q0,q1,_,_⟩:=hSu.2.1.use;go_simp;(try with_reducible rfl)
  (try simp only [zq,Act.put]);refine zqa 1 ?_;refine zqa 2 ?_;refine zqf 3 (fun u hSu => And.intro ((hSu.1.cell (p:=⟨g,o,none⟩) hg).trans C0.out) (And.intro ((hSu.1.cell (p:=⟨g,o + 1,none⟩) hg).trans C1.out) ((hSu.1.cell (p:=⟨g,o + 2,none⟩) hg).trans C2.out))) ?_;refine zqa 4 ?_;refine zqa 5 ?_;refine zqf 6 (fun u hSu => And.intro ((hSu.1.cell (p:=⟨g,o,none⟩) hg).trans C0.out) (And.intro ((hSu.1.cell (p:=⟨g,o + 1,none⟩) hg).trans C1.out) ((hSu.1.cell (p:=⟨g,o + 2,none⟩) hg).trans C2.out))) ?_;refine zqa 7 ?_;refine zqa 8 ?_;refine zqf 9 (fun u hSu => And.intro ((hSu.1.cell (p:=⟨g,o,none⟩) hg).trans C0.out) (And.intro ((hSu.1.cell (p:=⟨g,o + 1,none⟩) hg).trans C1.out) ((hSu.1.cell (p:=⟨g,o + 2,none⟩) hg).trans C2.out))) ?_;refine zqr 10 fun K hK => ?_
  go_simp;refine (HC.out _ (HM.out.keep hHeld.1)).mono ?_;rintro e u1 ⟨A2,n2,c2,P2,K2,d2,rfl,hr,bb⟩;obtain ⟨A9,P9,n9,c9,k9,d9,hz⟩:=hHeld.2.2;have hN : Below w.heap.size w u1 ∧ Box u1 w.heap.size (.slice A n c) (.slice P Kp d0) 29 ∧ ∃ A9 P9 n9 c9 k9 d9,Box u1 (w.heap.size + 1) (.slice A9 n9 c9) (.slice P9 k9 d9) 29:=⟨below_then hHeld.1 bb,hHeld.2.1.keep bb,A9,P9,n9,c9,k9,d9,hz.keep bb⟩;have HZ:=zqh (hz.keep bb);have HR : Hid (C = 0 → MemP P Kp w.heap.size u1 (.agg #[.slice A2 n2 c2,.slice P2 K2 d2]) M):=zqh fun h => hr.le hHeld.1.size
  (go_wp2_with fail);clear bb hr hz;clear hHeld;refine hK.out _ _ hN (fun hHeld => ?_);clear hK K hN;(try simp only [zq,Act.put]);refine zqa 11 ?_;refine zqa 12 ?_;refine zqr 13 fun K hK => ?_
  obtain ⟨z0,z1,z2,z3⟩:=HZ.out.use;have hB:=hHeld.1;have hX:=hHeld.2.1;go_simp;(go_wp2_with fail);refine hK.out _ _ ⟨(hB.setCell (by simp) _).setCell (by simp) _,hX.row (row_put _ _ _ _) (by omega),_,_,_,_,_,_,HZ.out.put _ _⟩ (fun hHeld => ?_);have HB:=zqh hHeld.1;clear z0 z1 z2 z3 hB hX;clear hK K;(try simp only [zq,Act.put]);refine zqa 14 ?_;refine wpAnyH_done (by kernel_rfl) ?_ _;refine NoPanic.normal ?_;(go_wp2_with fail);refine bodyPost_ret (v:=.tuple #[.agg #[.slice A2 n2 c2,.slice P2 K2 d2],.int .i64 C]) ?_ rfl ?_
  · obtain ⟨r0,r1⟩:=HZ.out.got (.slice A2 n2 c2) (.slice P2 K2 d2)
    simp [results,Tryz.results158,go_sem,r0,r1]
  · exact ⟨_,_,_,_,_,_,rfl,fun hz => (HR.out hz).row2 (Nat.le_refl _) HZ.out (row_put _ _ _ _),HB.out⟩


theorem based1 (W : World) (p : Addr) (v : Int) (hp : W.cell? p = some (.int .i64 v)) (hpl : p.block < W.heap.size) (A P : Option Addr) (n c Kp d : Nat) (m : PM) (A1 : Option Addr) (c1 : Nat) (x : List Int) (w : World) (b0 : Go.Proofs.YtcmldhjicjmmgaaGreatDoor.Kp W w) (hm : MemIn w A P n c Kp d m) :
    Calls Tryz.prog 239 #[.agg #[.slice A n c,.slice P Kp d],.slice A1 0 c1,.pointer (some p)] w (MemOut P Kp (storeF m 0 v) (cellC m.1.length 0) w):=by
  rw [hm.is.len1];have HM:=zqh hm.is;have HS:=zqh fun w h => store_atp A P n c Kp d m 0 v w (zqh h) (by have:=hm.n2; omega) (by have:=hm.k1; omega)
  generalize cellC n 0 = C at HS ⊢;generalize storeF m 0 v = M at HS ⊢;have hp0:=(b0.cell hpl).trans hp;have hl0:=Nat.lt_of_lt_of_le hpl b0.size;clear hm;go_enter Tryz.func239,Tryz.ntmps239;go_upto_region 1 with fail
  generalize hw1 : World.alloc (World.alloc _ _) _ = w1;have kb : Below w.heap.size w w1:=by rw [← hw1]; exact al_two _ _ _
  have kx : Box w1 w.heap.size (.slice A n c) (.slice P Kp d) 29:=by rw [← hw1]; exact (box_two w _ _ _ _ _ _).1
  have kz : Box w1 (w.heap.size + 1) (.slice none 0 0) (.slice none 0 0) 29:=by rw [← hw1]; exact (box_two w _ _ _ _ _ _).2
  have KS : Hid (w1.heap.size = w.heap.size + 1 + 1):=by show _ = _; rw [← hw1]; simp
  clear hw1;have X1:=zqh kx;have Z1:=zqh kz;have B1:=zqh kb;obtain ⟨q0,q1,_,_⟩:=kx.use;have hp1:=(kb.cell hl0).trans hp0;clear kb kx kz hp0;(go_wp2_with fail);refine (HS.out _ (HM.out.keep B1.out)).mono ?_;rintro e w3 ⟨A2,n2,c2,P2,K2,d2,rfl,hr,bb⟩;have Z3:=zqh (Z1.out.keep bb);have B3:=zqh (below_then B1.out bb);have HR:=zqh (hr.le B1.out.size);obtain ⟨z0,z1,z2,z3⟩:=Z3.out.use;clear HS bb hr q0 q1;(go_wp2_with fail);refine bodyPost_ret (v:=.tuple #[.agg #[.slice A2 n2 c2,.slice P2 K2 d2],.int .i64 C]) ?_ rfl ?_
  · obtain ⟨r0,r1⟩:=Z3.out.got (.slice A2 n2 c2) (.slice P2 K2 d2)
    simp [results,Tryz.results239,go_sem,r0,r1]
  · exact ⟨_,_,_,_,_,_,rfl,fun _ => HR.out.row2 (by omega) Z3.out (row_put _ _ _ _),(B3.out.setCell (by simp) _).setCell (by simp) _⟩


theorem here1 (k : VmK) (w : World) : Calls Tryz.prog 162 #[vmV k] w fun e w' => e = .returned (.int .i64 (k.here)) ∧ Below w.heap.size w w':=by
  go_enter Tryz.func162,Tryz.ntmps162;go_upto_region 1 with fail
  generalize hw1 : World.alloc _ _ = w1;have kb : Below w.heap.size w w1:=by rw [← hw1]; exact al_one _ _
  have kx : VBox w1 w.heap.size k:=by rw [← hw1]; exact vbox_new w k
  obtain ⟨p0,p1,p2,p3,p4,p5,p6,p7,p8,p9,p10,p11,p12,p13,p14,p15,p16,p17,p18,p19,p20,p21,p22⟩:=kx.use;clear p0 p1 p2 p3 p4 p5 p6 p8 p9 p10 p11 p12 p13 p14 p15 p16 p17 p18 p19 p20 p21 p22;clear hw1 kx;have B1:=zqh kb;clear kb;(go_wp2_with fail);go_ret;exact ⟨rfl,B1.out⟩
theorem arg1 (k : VmK) (w : World) : Calls Tryz.prog 199 #[vmV k] w fun e w' => e = .returned (.int .i64 (k.arg)) ∧ Below w.heap.size w w':=by
  go_enter Tryz.func199,Tryz.ntmps199;go_upto_region 1 with fail
  generalize hw1 : World.alloc _ _ = w1;have kb : Below w.heap.size w w1:=by rw [← hw1]; exact al_one _ _
  have kx : VBox w1 w.heap.size k:=by rw [← hw1]; exact vbox_new w k
  obtain ⟨p0,p1,p2,p3,p4,p5,p6,p7,p8,p9,p10,p11,p12,p13,p14,p15,p16,p17,p18,p19,p20,p21,p22⟩:=kx.use;clear p0 p1 p2 p3 p4 p5 p6 p7 p8 p9 p10 p11 p12 p13 p14 p15 p16 p17 p18 p20 p21 p22;clear hw1 kx;have B1:=zqh kb;clear kb;(go_wp2_with fail);go_ret;exact ⟨rfl,B1.out⟩
theorem self1 (k : VmK) (w : World) : Calls Tryz.prog 200 #[vmV k] w fun e w' => e = .returned (.int .i64 (k.self)) ∧ Below w.heap.size w w':=by
  go_enter Tryz.func200,Tryz.ntmps200;go_upto_region 1 with fail
  generalize hw1 : World.alloc _ _ = w1;have kb : Below w.heap.size w w1:=by rw [← hw1]; exact al_one _ _
  have kx : VBox w1 w.heap.size k:=by rw [← hw1]; exact vbox_new w k
  obtain ⟨p0,p1,p2,p3,p4,p5,p6,p7,p8,p9,p10,p11,p12,p13,p14,p15,p16,p17,p18,p19,p20,p21,p22⟩:=kx.use;clear p0 p1 p2 p3 p4 p5 p6 p7 p8 p9 p10 p11 p12 p13 p14 p15 p16 p17 p18 p19 p21 p22;clear hw1 kx;have B1:=zqh kb;clear kb;(go_wp2_with fail);go_ret;exact ⟨rfl,B1.out⟩
theorem now1 (k : VmK) (w : World) : Calls Tryz.prog 201 #[vmV k] w fun e w' => e = .returned (.int .i64 (k.now)) ∧ Below w.heap.size w w':=by
  go_enter Tryz.func201,Tryz.ntmps201;go_upto_region 1 with fail
  generalize hw1 : World.alloc _ _ = w1;have kb : Below w.heap.size w w1:=by rw [← hw1]; exact al_one _ _
  have kx : VBox w1 w.heap.size k:=by rw [← hw1]; exact vbox_new w k
  obtain ⟨p0,p1,p2,p3,p4,p5,p6,p7,p8,p9,p10,p11,p12,p13,p14,p15,p16,p17,p18,p19,p20,p21,p22⟩:=kx.use;clear p0 p1 p2 p3 p4 p5 p6 p7 p8 p9 p10 p11 p12 p13 p14 p15 p16 p17 p18 p19 p20 p22;clear hw1 kx;have B1:=zqh kb;clear kb;(go_wp2_with fail);go_ret;exact ⟨rfl,B1.out⟩
theorem known1 (W : World) (p : Addr) (v : Int) (hp : W.cell? p = some (.int .i64 v)) (hpl : p.block < W.heap.size) (k : VmK) (w : World) (b0 : Kp W w) : Calls Tryz.prog 238 #[vmV k,.pointer (some p)] w fun e w' => e = .returned (.int .i64 v) ∧ Below w.heap.size w w':=by
  have hp0:=(b0.cell hpl).trans hp;have hl0:=Nat.lt_of_lt_of_le hpl b0.size;go_enter Tryz.func238,Tryz.ntmps238;go_upto_region 1 with fail
  generalize hw1 : World.alloc _ _ = w1;have kb : Below w.heap.size w w1:=by rw [← hw1]; exact al_one _ _
  have hp1:=(kb.cell hl0).trans hp0;clear hw1 hp0;have B1:=zqh kb;clear kb;(go_wp2_with fail);go_ret;exact ⟨rfl,B1.out⟩


theorem shuffled1 (W : World) (p : Addr) (s : ByteArray) (hp : W.cell? p = some (.string s)) (hpl : p.block < W.heap.size) (w : World) (k : VmK) (L : VmL) (b0 : Kp W w) (ok : Ok k L) (h : IsVm w k L) :
    Calls Tryz.prog 119 #[vmV k,.pointer (some p)] w (DeedOut (shufE s.data.toList k L) k w):=by
  show Calls _ _ _ _ (DeedOut ⟨codeR (resF (kindF s.data.toList) L.d) k.cd,[],k,{ L with d:=listR (resF (kindF s.data.toList) L.d) L.d k.cd }⟩ k w);have hp0:=(b0.cell hpl).trans hp;have hl0:=Nat.lt_of_lt_of_le hpl b0.size;have hdn : k.dn ≤ 65536:=by have:=ok.d1; have:=h.d.1; omega
  have HC:=zqh fun w h => shuffle_atN k.dA k.dn k.dc s L.d k.cd w hdn (zqh h)
  have V0:=zqh h;generalize listR (resF (kindF s.data.toList) L.d) L.d k.cd = l9 at HC ⊢;generalize codeR (resF (kindF s.data.toList) L.d) k.cd = C at HC ⊢;generalize knownR (resF (kindF s.data.toList) L.d) = Z at HC;clear b0 hp hpl ok h;go_enter Tryz.func119,Tryz.ntmps119;go_upto_region 1 with fail
  generalize hw1 : World.alloc (World.alloc _ _) _ = w1;have kb : Below w.heap.size w w1:=by rw [← hw1]; exact al_two _ _ _
  have kx : VBox w1 w.heap.size k:=by rw [← hw1]; exact (in_two w k _).2
  have kz : VBox w1 (w.heap.size + 1) vm0:=by rw [← hw1]; exact in_two0 w _
  have KS : Hid (w1.heap.size = w.heap.size + 1 + 1):=by show _ = _; rw [← hw1]; exact in_twos w _ _
  clear hw1;have hp1:=(kb.cell hl0).trans hp0;have X1:=zqh kx;have Z1:=zqh kz;have B1:=zqh kb;obtain ⟨p0,p1,p2,p3,p4,p5,p6,p7,p8,p9,p10,p11,p12,p13,p14,p15,p16,p17,p18,p19,p20,p21,p22⟩:=kx.use;clear p0 p2 p3 p4 p5 p6 p7 p9 p10 p11 p12 p13 p14 p15 p16 p17 p18 p19 p20 p21 p22;clear kb kx kz hp0;(go_wp2_with fail);refine (HC.out _ (V0.out.keep B1.out).d).mono ?_;rintro e w2 ⟨B,m,d,rfl,hr,bb⟩;have X2:=zqh (X1.out.keep bb);have Z2:=zqh (Z1.out.keep bb);have B2:=zqh (below_then B1.out bb);have HR:=zqh hr;have F8:=X2.out.free.2.2.2.2.2.2.2.2.1;obtain ⟨p0,p1,p2,p3,p4,p5,p6,p7,P8,p9,p10,p11,p12,p13,p14,p15,p16,p17,p18,p19,p20,p21,p22⟩:=X2.out.use;clear p0 p1 p2 p3 p4 p5 p6 p7 p9 p10 p11 p12 p13 p14 p15 p16 p17 p18 p19 p20 p21 p22;clear HC X1 Z1 B1 bb hr p1 p8;go_upto_region 3 with fail
  generalize hV : World.setCell _ _ _ = V;have XW : Hid (VBox V w.heap.size { k with dA:=B,dn:=m,dc:=d }):=by show VBox _ _ _; rw [← hV]; exact X2.out.put_d _ _ _
  have ZW : Hid (VBox V (w.heap.size + 1) vm0):=by show VBox _ _ _; rw [← hV]; exact vset_far Z2.out (by omega)
  have BW : Hid (Below w.heap.size w V):=by show Below _ _ _; rw [← hV]; exact B2.out.setCell (Nat.le_refl _) _
  have EW : Hid (Ex (fun g => g = w.heap.size ∨ g = w.heap.size + 1) w2 V):=by show Ex _ _ _; rw [← hV]; exact (Ex.refl _ _).cell (.inl rfl) _
  clear hV F8 P8;(go_wp2_with (first | (refine wpList_vload (by rfl) _ rfl _ _ rfl XW.out ?_) | (refine wpList_vstore (by rfl) _ _ rfl _ vm0 _ rfl rfl ZW.out ?_)));have kb2:=below_setRow BW.out (show w.heap.size ≤ w.heap.size + 1 by omega) (vmC { k with dA:=B,dn:=m,dc:=d });have v2:=V0.out.keep B2.out;have hl : MLoc w1.heap.size { k with dA:=B,dn:=m,dc:=d } k:=⟨.refl _ _ _,.inr HR.out.2,.refl _ _ _,⟨rfl,rfl⟩,⟨rfl,rfl⟩,⟨rfl,rfl⟩,⟨rfl,rfl⟩⟩;have hj : IsVm w2 { k with dA:=B,dn:=m,dc:=d } { L with d:=l9 }:=⟨v2.m,HR.out.1,v2.r,v2.f,v2.dict,v2.o,v2.q,v2.e,v2.h⟩;refine bodyPost_ret (res_ct rfl _ _ _ _ rfl (vrow ZW.out _)) rfl ⟨{ k with dA:=B,dn:=m,dc:=d },rfl,V0.out.ex hj hl (EW.out.row (.inr rfl) _) ?_,⟨rfl,rfl,rfl,rfl,rfl,rfl,rfl,rfl,rfl,rfl,rfl,rfl,rfl⟩,hl.le (by have:=KS.out; omega),kb2⟩;intro g hg h;have:=KS.out
  rcases h with rfl | rfl
  · exact ⟨by omega,by omega,vbox_nou8 X2.out⟩
  · exact ⟨by omega,by omega,vbox_nou8 Z2.out⟩
end Go.Proofs.YtcmldhjicjmmgaaGreatDoor
