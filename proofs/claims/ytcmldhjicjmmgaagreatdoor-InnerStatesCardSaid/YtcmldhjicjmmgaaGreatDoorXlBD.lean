/- Part 30. -/
import Derived.Test.YtcmldhjicjmmgaaGreatDoorXlBB
set_option linter.unusedVariables false
set_option linter.unusedSimpArgs false
set_option maxRecDepth 100000
set_option maxHeartbeats 4000000

namespace Go.Proofs.YtcmldhjicjmmgaaGreatDoor
open Go.RowKit


theorem store_lens (m : PM) (p n : Int) : (storeF m p n).1.length = m.1.length ∧ (storeF m p n).2.length ≤ m.2.length + 1:=by
  unfold storeF writeF
  split
  · split
    · rename_i h
      exact ⟨layF_len h.1,by simp⟩
    · exact ⟨rfl,by omega⟩
  · exact ⟨rfl,by omega⟩
theorem raised_any (A P : Option Addr) (n c K d : Nat) (m : PM) (a b : Int) (w : World) (hm : MemIn w A P n c K d m) : Calls Tryz.prog 148 #[.agg #[.slice A n c,.slice P K d],.int .i64 a,.int .i64 b] w (MemOut P K (storeF m a (wrap64 (fetchF m a + b))) (cellC n a) w):=by
  obtain ⟨C,hC⟩ : ∃ C,cellC n a = C:=⟨_,rfl⟩;have HF:=zqh fun w h => fetch_at A P n c K d m a w (zqh h) (by have:=hm.n2; omega)
  have HS:=zqh fun w h => store_atp A P n c K d m a (wrap64 (fetchF m a + b)) w (zqh h) (by have:=hm.n2; omega) (by have:=hm.k1; omega)
  have M0:=zqh hm.is;rw [hC] at HF HS ⊢;clear hC hm;go_enter Tryz.func148,Tryz.ntmps148;go_upto_region 1 with fail
  generalize hw1 : World.alloc (World.alloc _ _) _ = w1;have kb : Below w.heap.size w w1:=by rw [← hw1]; exact al_two _ _ _
  have kx : Box w1 w.heap.size (.slice A n c) (.slice P K d) 29:=by rw [← hw1]; exact (box_two w _ _ _ _ _ _).1
  have kz : Box w1 (w.heap.size + 1) (.slice none 0 0) (.slice none 0 0) 29:=by rw [← hw1]; exact (box_two w _ _ _ _ _ _).2
  have KS : Hid (w1.heap.size = w.heap.size + 1 + 1):=by show _ = _; rw [← hw1]; simp
  clear hw1;have X1:=zqh kx;have Z1:=zqh kz;have B1:=zqh kb;obtain ⟨q0,q1,_,_⟩:=kx.use;clear kb kx kz;(go_wp2_with fail);refine (HF.out _ (M0.out.keep B1.out)).mono ?_;rintro e w2 ⟨rfl,bb⟩;have X2:=zqh (X1.out.keep bb);have Z2:=zqh (Z1.out.keep bb);have B2:=zqh (below_then B1.out bb);obtain ⟨Q0,Q1,_,_⟩:=X2.out.use;obtain ⟨z0,z1,z2,z3⟩:=Z2.out.use;clear HF bb q0 q1
  by_cases h0 : C = 0
  · subst h0
    clear z0 z1 z2 z3;(go_wp2_with fail);refine (HS.out _ (M0.out.keep B2.out)).mono ?_;rintro e w3 ⟨A2,n2,c2,P2,K2,d2,rfl,hr,bb⟩;have Z3:=zqh (Z2.out.keep bb);have B3:=zqh (below_then B2.out bb);have HR:=zqh (hr.le B2.out.size);obtain ⟨z0,z1,z2,z3⟩:=Z3.out.use;clear HS bb hr Q0 Q1;(go_wp2_with fail);refine bodyPost_ret (v:=.tuple #[.agg #[.slice A2 n2 c2,.slice P2 K2 d2],.int .i64 0]) ?_ rfl ?_
    · obtain ⟨r0,r1⟩:=Z3.out.got (.slice A2 n2 c2) (.slice P2 K2 d2)
      simp [results,Tryz.results148,go_sem,r0,r1]
    · exact ⟨_,_,_,_,_,_,rfl,fun _ => HR.out.row2 (by omega) Z3.out (row_put _ _ _ _),(B3.out.setCell (by simp) _).setCell (by simp) _⟩
  · have hC2 : (C != 0) = true:=by simpa using h0
    clear HS;(go_wp2_with fail);refine bodyPost_ret (v:=.tuple #[.agg #[.slice A n c,.slice P K d],.int .i64 C]) ?_ rfl ?_
    · obtain ⟨r0,r1⟩:=Z2.out.got (.slice A n c) (.slice P K d)
      simp [results,Tryz.results148,go_sem,r0,r1]
    · exact ⟨_,_,_,_,_,_,rfl,fun hz => absurd hz h0,(B2.out.setCell (by simp) _).setCell (by simp) _⟩
theorem bothStored_any (A P : Option Addr) (n c K d : Nat) (m : PM) (a b b2 : Int) (w : World) (hm : MemIn w A P n c K d m) : Calls Tryz.prog 155 #[.agg #[.slice A n c,.slice P K d],.int .i64 a,.int .i64 b,.int .i64 b2] w (MemOut P K (storeF (storeF m a b) (wrap64 (a + 8)) b2) (twoC n a) w):=by
  obtain ⟨C,hC⟩ : ∃ C,cellC n a = C:=⟨_,rfl⟩;obtain ⟨C2,hC2⟩ : ∃ C,cellC n (wrap64 (a + 8)) = C:=⟨_,rfl⟩;obtain ⟨D,hD⟩ : ∃ D,twoC n a = D:=⟨_,rfl⟩;have hDD : D = if C = 0 then C2 else C:=by rw [← hD]; unfold twoC; rw [hC,hC2]
  have hn:=hm.is.len1;have hk:=hm.is.len2;have HS:=zqh fun w h => store_atp A P n c K d m a b w (zqh h) (by have:=hm.n2; omega) (by have:=hm.k1; omega)
  have HT : Hid (∀ w A2 P2 n2 c2 K2 d2,IsMem w (.agg #[.slice A2 n2 c2,.slice P2 K2 d2]) (storeF m a b) → Calls Tryz.prog 146 #[.agg #[.slice A2 n2 c2,.slice P2 K2 d2],.int .i64 (wrap64 (a + 8)),.int .i64 b2] w fun e w' => ∃ A' L' c' P' K' d',e = .returned (.tuple #[.agg #[.slice A' L' c',.slice P' K' d'],.int .i64 C2]) ∧ MemP P2 K2 w.heap.size w' (.agg #[.slice A' L' c',.slice P' K' d']) (storeF (storeF m a b) (wrap64 (a + 8)) b2) ∧ Below w.heap.size w w'):=by
    intro w A2 P2 n2 c2 K2 d2 h;have e1:=h.len1;have e2:=h.len2;have:=store_lens m a b;have hn2 : n2 = n:=by omega
    subst hn2;have hh:=hm.n2;have hk:=hm.k1;rw [← hC2];exact store_atp A2 P2 n2 c2 K2 d2 (storeF m a b) (wrap64 (a + 8)) b2 w (zqh h) (by omega) (by omega)
  have M0:=zqh hm.is;rw [hC] at HS;rw [hD];clear hC hC2 hD hm hn hk
  by_cases h0 : C = 0
  · obtain rfl : D = C2:=by rw [hDD,if_pos h0]
    subst h0;clear hDD;go_enter Tryz.func155,Tryz.ntmps155;go_upto_region 1 with fail
    generalize hw1 : World.alloc (World.alloc _ _) _ = w1;have kb : Below w.heap.size w w1:=by rw [← hw1]; exact al_two _ _ _
    have kx : Box w1 w.heap.size (.slice A n c) (.slice P K d) 29:=by rw [← hw1]; exact (box_two w _ _ _ _ _ _).1
    have kz : Box w1 (w.heap.size + 1) (.slice none 0 0) (.slice none 0 0) 29:=by rw [← hw1]; exact (box_two w _ _ _ _ _ _).2
    have KS : Hid (w1.heap.size = w.heap.size + 1 + 1):=by show _ = _; rw [← hw1]; simp
    clear hw1;have X1:=zqh kx;have Z1:=zqh kz;have B1:=zqh kb;obtain ⟨q0,q1,_,_⟩:=kx.use;clear kb kx kz;(go_wp2_with fail);refine (HS.out _ (M0.out.keep B1.out)).mono ?_;rintro e w2 ⟨A2,n2,c2,P2,K2,d2,rfl,hr,bb⟩;have X2:=zqh (X1.out.keep bb);have Z2:=zqh (Z1.out.keep bb);have B2:=zqh (below_then B1.out bb);have HR:=zqh (hr.le B1.out.size);obtain ⟨Q0,Q1,Q2,Q3⟩:=X2.out.use;clear HS bb hr q0 q1;go_upto_region 2 with fail
    generalize hV : World.setCell _ _ _ = V;have XV : Hid (Box V w.heap.size (.slice A2 n2 c2) (.slice P2 K2 d2) 29):=by show Box _ _ _ _ _; rw [← hV]; exact X2.out.put _ _
    have ZV : Hid (Box V (w.heap.size + 1) (.slice none 0 0) (.slice none 0 0) 29):=by show Box _ _ _ _ _; rw [← hV]; exact Z2.out.row (row_put _ _ _ _) (by omega)
    have BV : Hid (Below w.heap.size w V):=by show Below _ _ _; rw [← hV]; exact (B2.out.setCell (Nat.le_refl _) _).setCell (Nat.le_refl _) _
    have MV : Hid (MemP P K w.heap.size V (.agg #[.slice A2 n2 c2,.slice P2 K2 d2]) (storeF m a b)):=by show MemP _ _ _ _ _ _; rw [← hV]; exact HR.out.row2 (Nat.le_refl _) X2.out (row_put _ _ _ _)
    clear hV Q0 Q1 Q2 Q3 HR B2 X2 Z2;obtain ⟨Q0,Q1,_,_⟩:=XV.out.use;(go_wp2_with fail);refine (HT.out _ _ _ _ _ _ _ MV.out.1).mono ?_;rintro e w3 ⟨A3,n3,c3,P3,K3,d3,rfl,hr,bb⟩;have Z3:=zqh (ZV.out.keep bb);have B3:=zqh (below_then BV.out bb);have HR : Hid (MemP P K w.heap.size w3 (.agg #[.slice A3 n3 c3,.slice P3 K3 d3]) (storeF (storeF m a b) (wrap64 (a + 8)) b2)):=⟨hr.1,fun x P' K' d' e => ((hr.2 x P' K' d' e).le BV.out.size).trans (MV.out.2 _ _ _ _ rfl)⟩;obtain ⟨z0,z1,z2,z3⟩:=Z3.out.use;clear HT bb hr Q0 Q1;(go_wp2_with fail);refine bodyPost_ret (v:=.tuple #[.agg #[.slice A3 n3 c3,.slice P3 K3 d3],.int .i64 D]) ?_ rfl ?_
    · obtain ⟨r0,r1⟩:=Z3.out.got (.slice A3 n3 c3) (.slice P3 K3 d3)
      simp [results,Tryz.results155,go_sem,r0,r1]
    · exact ⟨_,_,_,_,_,_,rfl,fun _ => HR.out.row2 (by omega) Z3.out (row_put _ _ _ _),(B3.out.setCell (by simp) _).setCell (by simp) _⟩
  · rw [hDD,if_neg h0]
    clear hDD D;go_enter Tryz.func155,Tryz.ntmps155;go_upto_region 1 with fail
    generalize hw1 : World.alloc (World.alloc _ _) _ = w1;have kb : Below w.heap.size w w1:=by rw [← hw1]; exact al_two _ _ _
    have kx : Box w1 w.heap.size (.slice A n c) (.slice P K d) 29:=by rw [← hw1]; exact (box_two w _ _ _ _ _ _).1
    have kz : Box w1 (w.heap.size + 1) (.slice none 0 0) (.slice none 0 0) 29:=by rw [← hw1]; exact (box_two w _ _ _ _ _ _).2
    have KS : Hid (w1.heap.size = w.heap.size + 1 + 1):=by show _ = _; rw [← hw1]; simp
    clear hw1;have X1:=zqh kx;have Z1:=zqh kz;have B1:=zqh kb;obtain ⟨q0,q1,_,_⟩:=kx.use;clear kb kx kz;(go_wp2_with fail);refine (HS.out _ (M0.out.keep B1.out)).mono ?_;rintro e w2 ⟨A2,n2,c2,P2,K2,d2,rfl,hr,bb⟩;have X2:=zqh (X1.out.keep bb);have Z2:=zqh (Z1.out.keep bb);have B2:=zqh (below_then B1.out bb);have HR:=zqh (hr.le B1.out.size);obtain ⟨Q0,Q1,Q2,Q3⟩:=X2.out.use;clear HS bb hr q0 q1;go_upto_region 2 with fail
    generalize hV : World.setCell _ _ _ = V;have XV : Hid (Box V w.heap.size (.slice A2 n2 c2) (.slice P2 K2 d2) 29):=by show Box _ _ _ _ _; rw [← hV]; exact X2.out.put _ _
    have ZV : Hid (Box V (w.heap.size + 1) (.slice none 0 0) (.slice none 0 0) 29):=by show Box _ _ _ _ _; rw [← hV]; exact Z2.out.row (row_put _ _ _ _) (by omega)
    have BV : Hid (Below w.heap.size w V):=by show Below _ _ _; rw [← hV]; exact (B2.out.setCell (Nat.le_refl _) _).setCell (Nat.le_refl _) _
    have MV : Hid (MemP P K w.heap.size V (.agg #[.slice A2 n2 c2,.slice P2 K2 d2]) (storeF m a b)):=by show MemP _ _ _ _ _ _; rw [← hV]; exact HR.out.row2 (Nat.le_refl _) X2.out (row_put _ _ _ _)
    clear hV Q0 Q1 Q2 Q3 HR B2 X2 Z2;obtain ⟨Q0,Q1,_,_⟩:=XV.out.use;have hC2 : (C != 0) = true:=by simpa using h0
    obtain ⟨z0,z1,z2,z3⟩:=ZV.out.use;clear HT;(go_wp2_with fail);refine bodyPost_ret (v:=.tuple #[.agg #[.slice A2 n2 c2,.slice P2 K2 d2],.int .i64 C]) ?_ rfl ?_
    · obtain ⟨r0,r1⟩:=ZV.out.got (.slice A2 n2 c2) (.slice P2 K2 d2)
      simp [results,Tryz.results155,go_sem,r0,r1]
    · exact ⟨_,_,_,_,_,_,rfl,fun hz => absurd hz h0,(BV.out.setCell (by simp) _).setCell (by simp) _⟩
theorem bothFetched_any (A P : Option Addr) (n c K d : Nat) (m : PM) (a : Int) (w : World) (hm : MemIn w A P n c K d m) : Calls Tryz.prog 153 #[.agg #[.slice A n c,.slice P K d],.int .i64 a] w (CellOut [fetchF m (wrap64 (a + 8)),fetchF m a] (twoC n a) w):=by
  obtain ⟨C,hC⟩ : ∃ C,cellC n a = C:=⟨_,rfl⟩;obtain ⟨C2,hC2⟩ : ∃ C,cellC n (wrap64 (a + 8)) = C:=⟨_,rfl⟩;obtain ⟨D,hD⟩ : ∃ D,twoC n a = D:=⟨_,rfl⟩;have hDD : D = if C = 0 then C2 else C:=by rw [← hD]; unfold twoC; rw [hC,hC2]
  have HF:=zqh fun w h => fetch_at A P n c K d m a w (zqh h) (by have:=hm.n2; omega)
  have HG:=zqh fun w h => fetch_at A P n c K d m (wrap64 (a + 8)) w (zqh h) (by have:=hm.n2; omega)
  have M0:=zqh hm.is;rw [hC] at HF;rw [hC2] at HG;rw [hD];generalize fetchF m a = x1 at HF ⊢;generalize fetchF m (wrap64 (a + 8)) = x2 at HG ⊢;clear hC hC2 hD hm
  by_cases h0 : C = 0
  · obtain rfl : D = C2:=by rw [hDD,if_pos h0]
    subst h0;clear hDD;go_enter Tryz.func153,Tryz.ntmps153;go_upto_region 1 with fail
    generalize hw1 : World.alloc _ _ = w1;have kb : Below w.heap.size w w1:=by rw [← hw1]; exact al_one _ _
    have X1 : Hid (Box w1 w.heap.size (.slice A n c) (.slice P K d) 29):=by show Box _ _ _ _ _; rw [← hw1]; exact box_new _ _ _ _
    obtain ⟨q0,q1,_,_⟩:=X1.out.use;clear hw1;have B1:=zqh kb;clear kb;(go_wp2_with fail);refine (HF.out _ (M0.out.keep B1.out)).mono ?_;rintro e w2 ⟨rfl,bb⟩;have X2:=zqh (X1.out.keep bb);have B2:=zqh (below_then B1.out bb);obtain ⟨Q0,Q1,_,_⟩:=X2.out.use;clear HF bb q0 q1;(go_wp2_with fail);refine (HG.out _ (M0.out.keep B2.out)).mono ?_;rintro e w3 ⟨rfl,bb⟩;have B3:=zqh (below_then B2.out bb);clear HG bb Q0 Q1;(go_wp2_with fail);go_ret2;exact ⟨_,_,_,rfl,fun _ => (rowN_two _ _ _).le B3.out.size,below_then B3.out (al_one _ _)⟩
  · rw [hDD,if_neg h0]
    clear hDD HG D;go_enter Tryz.func153,Tryz.ntmps153;go_upto_region 1 with fail
    generalize hw1 : World.alloc _ _ = w1;have kb : Below w.heap.size w w1:=by rw [← hw1]; exact al_one _ _
    have X1 : Hid (Box w1 w.heap.size (.slice A n c) (.slice P K d) 29):=by show Box _ _ _ _ _; rw [← hw1]; exact box_new _ _ _ _
    obtain ⟨q0,q1,_,_⟩:=X1.out.use;clear hw1;have B1:=zqh kb;clear kb;(go_wp2_with fail);refine (HF.out _ (M0.out.keep B1.out)).mono ?_;rintro e w2 ⟨rfl,bb⟩;have X2:=zqh (X1.out.keep bb);have B2:=zqh (below_then B1.out bb);obtain ⟨Q0,Q1,_,_⟩:=X2.out.use;clear HF bb q0 q1;have hC2 : (C != 0) = true:=by simpa using h0
    (go_wp2_with fail);go_ret2;exact ⟨none,0,0,rfl,fun hz => absurd hz h0,B2.out⟩
theorem counted_any (A P : Option Addr) (n c K d : Nat) (m : PM) (a : Int) (w : World) (hm : MemIn w A P n c K d m) : Calls Tryz.prog 160 #[.agg #[.slice A n c,.slice P K d],.int .i64 a] w (CellOut [wrap64 (a + 1),byteF m a] (codeF (okB n a 1)) w):=by
  have HF:=zqh fun w h => fetchByte_at A P n c K d m a w (zqh h) (by have:=hm.n2; omega)
  have M0:=zqh hm.is;generalize byteF m a = x1 at HF ⊢;generalize codeF (okB n a 1) = C at HF ⊢;clear hm;go_enter Tryz.func160,Tryz.ntmps160;go_upto_region 1 with fail
  generalize hw1 : World.alloc _ _ = w1;have kb : Below w.heap.size w w1:=by rw [← hw1]; exact al_one _ _
  have X1 : Hid (Box w1 w.heap.size (.slice A n c) (.slice P K d) 29):=by show Box _ _ _ _ _; rw [← hw1]; exact box_new _ _ _ _
  obtain ⟨q0,q1,_,_⟩:=X1.out.use;clear hw1;have B1:=zqh kb;clear kb;(go_wp2_with fail);refine (HF.out _ (M0.out.keep B1.out)).mono ?_;rintro e w2 ⟨rfl,bb⟩;have B2:=zqh (below_then B1.out bb);clear HF bb q0 q1;(go_wp2_with fail);go_ret2;exact ⟨_,_,_,rfl,fun _ => (rowN_two _ _ _).le B2.out.size,below_then B2.out (al_one _ _)⟩
end Go.Proofs.YtcmldhjicjmmgaaGreatDoor
