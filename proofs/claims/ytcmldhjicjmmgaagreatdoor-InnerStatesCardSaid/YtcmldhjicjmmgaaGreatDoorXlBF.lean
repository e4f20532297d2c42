/- Part 32. -/
import Derived.Test.YtcmldhjicjmmgaaGreatDoorXlBC
import Derived.Test.YtcmldhjicjmmgaaGreatDoorXlBE
set_option linter.unusedVariables false
set_option linter.unusedSimpArgs false
set_option maxRecDepth 100000
set_option maxHeartbeats 4000000

namespace Go.Proofs.YtcmldhjicjmmgaaGreatDoor
open Go.RowKit


theorem reckonedOfTwo_is (s : ByteArray) (w : World) : Calls Tryz.prog 94 #[.string s] w (Makes (deedE 2 (fun k L x => twoE s.data.toList k L (x.getD 0 0) (x.getD 1 0))) w):=by
  have hmf : ∀ (fn : Fn) (first cap : Array Value) (w : World),(Instr.makeFunc fn first cap).run Tryz.prog w = .ok (.func fn first cap) w:=fun _ _ _ _ => rfl
  go_enter Tryz.func94,Tryz.ntmps94;(go_wp2_with fail);generalize hw1 : World.alloc _ _ = w1;have kb : Below w.heap.size w w1:=by rw [← hw1]; exact al_one _ _
  have c0 : w1.cell? ⟨w.heap.size,0,none⟩ = some (.string s):=by rw [← hw1]; simp
  have hl : w.heap.size < w1.heap.size:=by rw [← hw1]; simp
  have HA : IsReck w1 (.func (.func 122) #[] #[.pointer (some ⟨w.heap.size,0,none⟩)]) 2 (fun x => [(twoF s.data.toList (x.getD 0 0) (x.getD 1 0)).getD 0]) (fun x => divC s.data.toList (x.getD 1 0)):=⟨_,_,rfl,(enters_of Tryz.func122 (by kernel_rfl) rfl),fun w2 A c x b2 hx => reckonedOfTwo1 w1 _ s c0 hl w2 A c x b2 hx⟩;have B1:=zqh kb;clear c0 kb hw1;refine (reckons_is 2 _ _ (by decide) (fun _ => by show 1 ≤ 4; decide) w1 _ HA).mono ?_;rintro e w2 ⟨d,rfl,hd,bb⟩;have B2:=zqh (below_then B1.out bb);clear B1 bb HA hl;(go_wp2_with fail);go_ret;exact ⟨d,rfl,hd,B2.out⟩
theorem known_is (n : Int) (w : World) : Calls Tryz.prog 173 #[.int .i64 n] w (Makes (deedE 0 (teF (fun _ _ => n))) w):=by
  have hmf : ∀ (fn : Fn) (first cap : Array Value) (w : World),(Instr.makeFunc fn first cap).run Tryz.prog w = .ok (.func fn first cap) w:=fun _ _ _ _ => rfl
  go_enter Tryz.func173,Tryz.ntmps173;(go_wp2_with fail);generalize hw1 : World.alloc _ _ = w1;have kb : Below w.heap.size w w1:=by rw [← hw1]; exact al_one _ _
  have c0 : w1.cell? ⟨w.heap.size,0,none⟩ = some (.int .i64 n):=by rw [← hw1]; simp
  have hl : w.heap.size < w1.heap.size:=by rw [← hw1]; simp
  have HA : IsTell w1 (.func (.func 238) #[] #[.pointer (some ⟨w.heap.size,0,none⟩)]) (fun _ _ => n):=⟨_,_,rfl,(enters_of Tryz.func238 (by kernel_rfl) rfl),fun w2 k L b2 ok hv => known1 w1 _ n c0 hl k w2 b2⟩;have B1:=zqh kb;clear c0 kb hw1;refine (tells_is _ w1 _ HA).mono ?_;rintro e w2 ⟨d,rfl,hd,bb⟩;have B2:=zqh (below_then B1.out bb);clear B1 bb HA hl;(go_wp2_with fail);go_ret;exact ⟨d,rfl,hd,B2.out⟩
theorem based_is (n : Int) (w : World) : Calls Tryz.prog 174 #[.int .i64 n] w (Makes (deedE 0 (tnF (stF (fun m _ => storeF m 0 n) (fun m _ => cellC m.1.length 0)))) w):=by
  have hmf : ∀ (fn : Fn) (first cap : Array Value) (w : World),(Instr.makeFunc fn first cap).run Tryz.prog w = .ok (.func fn first cap) w:=fun _ _ _ _ => rfl
  go_enter Tryz.func174,Tryz.ntmps174;(go_wp2_with fail);generalize hw1 : World.alloc _ _ = w1;have kb : Below w.heap.size w w1:=by rw [← hw1]; exact al_one _ _
  have c0 : w1.cell? ⟨w.heap.size,0,none⟩ = some (.int .i64 n):=by rw [← hw1]; simp
  have hl : w.heap.size < w1.heap.size:=by rw [← hw1]; simp
  have HA : IsStore w1 (.func (.func 239) #[] #[.pointer (some ⟨w.heap.size,0,none⟩)]) 0 (fun m _ => storeF m 0 n) (fun m _ => cellC m.1.length 0):=⟨_,_,rfl,(enters_of Tryz.func239 (by kernel_rfl) rfl),fun w2 A P n9 c K d m B c2 x b2 hm hx => based1 w1 _ n c0 hl A P n9 c K d m B c2 x w2 b2 hm⟩;have B1:=zqh kb;clear c0 kb hw1;refine (stores_is 0 _ _ (by decide) w1 _ HA).mono ?_;rintro e w2 ⟨d,rfl,hd,bb⟩;have B2:=zqh (below_then B1.out bb);clear B1 bb HA hl;(go_wp2_with fail);go_ret;exact ⟨d,rfl,hd,B2.out⟩
theorem shuffled_is (s : ByteArray) (w : World) : Calls Tryz.prog 93 #[.string s] w (Makes (shufE s.data.toList) w):=by
  have hmf : ∀ (fn : Fn) (first cap : Array Value) (w : World),(Instr.makeFunc fn first cap).run Tryz.prog w = .ok (.func fn first cap) w:=fun _ _ _ _ => rfl
  go_enter Tryz.func93,Tryz.ntmps93;(go_wp2_with fail);go_ret;refine ⟨_,rfl,⟨_,_,rfl,(enters_of Tryz.func119 (by kernel_rfl) rfl),fun w2 k L b2 ok hv => ?_⟩,al_one _ _⟩;exact shuffled1 (w.alloc _) ⟨w.heap.size,0,none⟩ s (by simp) (by simp) w2 k L b2 ok hv


theorem room3 (A P : Option Addr) (n c Kp d : Nat) (m : PM) (h : Int) (A1 : Option Addr) (c1 : Nat) (x : List Int) (w : World) (hm : MemIn w A P n c Kp d m) (h1 : 1368 ≤ h) (h2 : h ≤ (n : Int)) (hx : Takes w 1 A1 c1 x) :
    Calls Tryz.prog 167 #[.agg #[.slice A n c,.slice P Kp d],.int .i64 h,.slice A1 1 c1] w (LayOut P Kp (comM m h (x.getD 0 0)) (comP m.1.length h) (comC m.1.length h) w):=by
  obtain ⟨a,g,o,rfl,rfl,hg,c0,ha⟩:=hx.one;(try rw [hm.is.len1]);have hp:=(endB_iff n h).2 ⟨by omega,h2⟩;show Calls _ _ _ _ (LayOut P Kp (comM m h a) (comP n h) (comC n h) w);have HM:=zqh hm;have HC:=zqh fun w (hm : MemIn w A P n c Kp d m) => comma_atp A P n c Kp d m h a w (zqh hm.is) (by have:=hm.n2; omega) (by have:=hm.k1; omega) hp
  generalize comC n h = C at HC ⊢;generalize comP n h = E at HC ⊢;generalize comM m h a = M at HC ⊢;have C0:=zqh c0;clear hm hx c0;go_enter Tryz.func167,Tryz.ntmps167;go_upto_region 1 with fail
  generalize hw1 : World.alloc (World.alloc _ _) _ = w1;have kb : Below w.heap.size w w1:=by rw [← hw1]; exact al_two _ _ _
  have kx : Box w1 w.heap.size (.slice A n c) (.slice P Kp d) 29:=by rw [← hw1]; exact (box_two w _ _ _ _ _ _).1
  have kz : Box w1 (w.heap.size + 1) (.slice none 0 0) (.slice none 0 0) 29:=by rw [← hw1]; exact (box_two w _ _ _ _ _ _).2
  have KS : Hid (w1.heap.size = w.heap.size + 1 + 1):=by show _ = _; rw [← hw1]; simp
  clear hw1;have X1:=zqh kx;have Z1:=zqh kz;have B1:=zqh kb;clear kb kx kz;refine wp_region_noPanic ?_;refine wp_region_held_drew (S:=fun a => Below w.heap.size w a ∧ Box a w.heap.size (.slice A n c) (.slice P Kp d) 29 ∧ ∃ A9 P9 n9 c9 k9 d9,Box a (w.heap.size + 1) (.slice A9 n9 c9) (.slice P9 k9 d9) 29) (by kernel_rfl) ?_ (fun hHeld => ?_)
  · exact ⟨B1.out.drew,X1.out,_,_,_,_,_,_,Z1.out⟩
  refine zqt (i:=0) (v:=?v0a23) ?y0a23 ?r0a23
  case y0a23 =>
    intro u hSu;(try dsimp only at hSu);obtain ⟨q0,q1,_,_⟩:=hSu.2.1.use;go_simp;(try with_reducible rfl)
  (try simp only [zq,Act.put]);refine zqa 1 ?_;refine zqa 2 ?_;refine zqa 3 ?_;refine zqf 4 (fun u hSu => (hSu.1.cell (p:=⟨g,o,none⟩) hg).trans C0.out) ?_;refine zqr 5 fun K hK => ?_
  go_simp;refine (HC.out _ (HM.out.keep hHeld.1)).mono ?_;rintro e u1 ⟨A2,n2,c2,P2,K2,d2,rfl,hr,bb⟩;obtain ⟨A9,P9,n9,c9,k9,d9,hz⟩:=hHeld.2.2;have hN : Below w.heap.size w u1 ∧ Box u1 w.heap.size (.slice A n c) (.slice P Kp d) 29 ∧ ∃ A9 P9 n9 c9 k9 d9,Box u1 (w.heap.size + 1) (.slice A9 n9 c9) (.slice P9 k9 d9) 29:=⟨below_then hHeld.1 bb,hHeld.2.1.keep bb,A9,P9,n9,c9,k9,d9,hz.keep bb⟩;have HZ:=zqh (hz.keep bb);have HR : Hid (MemP P Kp w.heap.size u1 (.agg #[.slice A2 n2 c2,.slice P2 K2 d2]) M):=zqh (hr.le hHeld.1.size);(go_wp2_with fail);clear bb hr hz;clear hHeld;refine hK.out _ _ hN (fun hHeld => ?_);clear hK K hN;(try simp only [zq,Act.put]);refine zqa 6 ?_;refine zqa 7 ?_;refine zqa 8 ?_;refine zqr 9 fun K hK => ?_
  obtain ⟨z0,z1,z2,z3⟩:=HZ.out.use;have hB:=hHeld.1;have hX:=hHeld.2.1;go_simp;(go_wp2_with fail);refine hK.out _ _ ⟨(hB.setCell (by simp) _).setCell (by simp) _,hX.row (row_put _ _ _ _) (by omega),_,_,_,_,_,_,HZ.out.put _ _⟩ (fun hHeld => ?_);have HB:=zqh hHeld.1;clear z0 z1 z2 z3 hB hX;clear hK K;(try simp only [zq,Act.put]);refine zqa 10 ?_;refine zqa 11 ?_;refine wpAnyH_done (by kernel_rfl) ?_ _;refine NoPanic.normal ?_;(go_wp2_with fail);refine bodyPost_ret (v:=.tuple #[.agg #[.slice A2 n2 c2,.slice P2 K2 d2],.int .i64 E,.int .i64 C]) ?_ rfl ?_
  · obtain ⟨r0,r1⟩:=HZ.out.got (.slice A2 n2 c2) (.slice P2 K2 d2)
    simp [results,Tryz.results167,go_sem,r0,r1]
  · exact ⟨_,_,_,_,_,_,rfl,fun hz => HR.out.row2 (Nat.le_refl _) HZ.out (row_put _ _ _ _),HB.out⟩
theorem room4 (A P : Option Addr) (n c Kp d : Nat) (m : PM) (h : Int) (A1 : Option Addr) (c1 : Nat) (x : List Int) (w : World) (hm : MemIn w A P n c Kp d m) (h1 : 1368 ≤ h) (h2 : h ≤ (n : Int)) (hx : Takes w 1 A1 c1 x) :
    Calls Tryz.prog 169 #[.agg #[.slice A n c,.slice P Kp d],.int .i64 h,.slice A1 1 c1] w (LayOut P Kp (layM m h [lowB (x.getD 0 0)]) (layP m.1.length h 1) (layC m.1.length h 1) w):=by
  obtain ⟨a,g,o,rfl,rfl,hg,c0,ha⟩:=hx.one;(try rw [hm.is.len1]);have hp:=(endB_iff n h).2 ⟨by omega,h2⟩;show Calls _ _ _ _ (LayOut P Kp (layM m h [lowB a]) (layP n h 1) (layC n h 1) w);have HM:=zqh hm;obtain ⟨xb,hxb⟩ : ∃ xb,lowB a = xb:=⟨_,rfl⟩;have HXB : Hid (a % 256 = (xb.toNat : Int)):=by show _ = _; rw [← hxb]; exact (lowB_nat a).symm
  rw [hxb];have HC : Hid (∀ (w : World) (hm : MemIn w A P n c Kp d m) {B : Option Addr} (hb : Byt w (.slice B 1 1) [xb]),Calls Tryz.prog 170 #[.agg #[.slice A n c,.slice P Kp d],.int .i64 h,.slice B 1 1] w fun e w' => ∃ A' L' c' P' K' d',e = .returned (.tuple #[.agg #[.slice A' L' c',.slice P' K' d'],.int .i64 (layP n h 1),.int .i64 (layC n h 1)]) ∧ MemP P Kp w.heap.size w' (.agg #[.slice A' L' c',.slice P' K' d']) (layM m h [xb]) ∧ Below w.heap.size w w'):=zqh fun w hm B hb => lay_atp A P B n c Kp d 1 1 m [xb] h w (zqh hm.is) (zqh hb) (by have:=hm.n2; omega) (by have:=hm.k1; omega) hp (by decide)
  generalize layC n h 1 = C at HC ⊢;generalize layP n h 1 = E at HC ⊢;generalize layM m h [xb] = M at HC ⊢;have C0:=zqh c0;clear hm hx c0;go_enter Tryz.func169,Tryz.ntmps169;go_upto_region 1 with fail
  generalize hw1 : World.alloc (World.alloc _ _) _ = w1;have kb : Below w.heap.size w w1:=by rw [← hw1]; exact al_two _ _ _
  have kx : Box w1 w.heap.size (.slice A n c) (.slice P Kp d) 29:=by rw [← hw1]; exact (box_two w _ _ _ _ _ _).1
  have kz : Box w1 (w.heap.size + 1) (.slice none 0 0) (.slice none 0 0) 29:=by rw [← hw1]; exact (box_two w _ _ _ _ _ _).2
  have KS : Hid (w1.heap.size = w.heap.size + 1 + 1):=by show _ = _; rw [← hw1]; simp
  clear hw1;have X1:=zqh kx;have Z1:=zqh kz;have B1:=zqh kb;clear kb kx kz;refine wp_region_noPanic ?_;refine wp_region_held_drew (S:=fun a => Below w.heap.size w a ∧ Box a w.heap.size (.slice A n c) (.slice P Kp d) 29 ∧ ∃ A9 P9 n9 c9 k9 d9,Box a (w.heap.size + 1) (.slice A9 n9 c9) (.slice P9 k9 d9) 29) (by kernel_rfl) ?_ (fun hHeld => ?_)
  · exact ⟨B1.out.drew,X1.out,_,_,_,_,_,_,Z1.out⟩
  refine zqt (i:=0) (v:=?v0a24) ?y0a24 ?r0a24
  case y0a24 =>
    intro u hSu;(try dsimp only at hSu);obtain ⟨q0,q1,_,_⟩:=hSu.2.1.use;go_simp;(try with_reducible rfl)
  (try simp only [zq,Act.put]);refine zqa 1 ?_;refine zqa 2 ?_;refine zqa 3 ?_;refine zqf 4 (fun u hSu => (hSu.1.cell (p:=⟨g,o,none⟩) hg).trans C0.out) ?_;refine zqf 5 (fun u hSu => HXB.out) ?_;refine zqr 6 fun K hK => ?_
  obtain ⟨A9,P9,n9,c9,k9,d9,hz⟩:=hHeld.2.2;go_simp;(go_wp2_with fail);have HBY : Hid (Byt (w1.drew.alloc (.cells #[.int .u8 (IntKind.u8.wrap a)] 5)) (.slice (some ⟨w1.drew.heap.size,0,none⟩) 1 1) [xb]):=by rw [show IntKind.u8.wrap a = (xb.toNat : Int) from HXB.out]; exact byt_one w1.drew xb
  refine hK.out _ _ ⟨below_then hHeld.1 (al_one _ _),hHeld.2.1.keep (al_one _ _),A9,P9,n9,c9,k9,d9,hz.keep (al_one _ _)⟩ (fun hHeld => ?_);clear hz A9 P9 n9 c9 k9 d9;clear hK K;(try simp only [zq,Act.put]);refine zqr 7 fun K hK => ?_
  go_simp;refine (HC.out _ (HM.out.keep hHeld.1) HBY.out).mono ?_;rintro e u1 ⟨A2,n2,c2,P2,K2,d2,rfl,hr,bb⟩;obtain ⟨A9,P9,n9,c9,k9,d9,hz⟩:=hHeld.2.2;have hN : Below w.heap.size w u1 ∧ Box u1 w.heap.size (.slice A n c) (.slice P Kp d) 29 ∧ ∃ A9 P9 n9 c9 k9 d9,Box u1 (w.heap.size + 1) (.slice A9 n9 c9) (.slice P9 k9 d9) 29:=⟨below_then hHeld.1 bb,hHeld.2.1.keep bb,A9,P9,n9,c9,k9,d9,hz.keep bb⟩;have HZ:=zqh (hz.keep bb);have HR : Hid (MemP P Kp w.heap.size u1 (.agg #[.slice A2 n2 c2,.slice P2 K2 d2]) M):=zqh (hr.le hHeld.1.size);(go_wp2_with fail);clear bb hr hz;clear hHeld;refine hK.out _ _ hN (fun hHeld => ?_);clear hK K hN;(try simp only [zq,Act.put]);refine zqa 8 ?_;refine zqa 9 ?_;refine zqa 10 ?_;refine zqr 11 fun K hK => ?_
  obtain ⟨z0,z1,z2,z3⟩:=HZ.out.use;have hB:=hHeld.1;have hX:=hHeld.2.1;go_simp;(go_wp2_with fail);refine hK.out _ _ ⟨(hB.setCell (by simp) _).setCell (by simp) _,hX.row (row_put _ _ _ _) (by omega),_,_,_,_,_,_,HZ.out.put _ _⟩ (fun hHeld => ?_);have HB:=zqh hHeld.1;clear z0 z1 z2 z3 hB hX;clear hK K;(try simp only [zq,Act.put]);refine zqa 12 ?_;refine zqa 13 ?_;refine wpAnyH_done (by kernel_rfl) ?_ _;refine NoPanic.normal ?_;(go_wp2_with fail);refine bodyPost_ret (v:=.tuple #[.agg #[.slice A2 n2 c2,.slice P2 K2 d2],.int .i64 E,.int .i64 C]) ?_ rfl ?_
  · obtain ⟨r0,r1⟩:=HZ.out.got (.slice A2 n2 c2) (.slice P2 K2 d2)
    simp [results,Tryz.results169,go_sem,r0,r1]
  · exact ⟨_,_,_,_,_,_,rfl,fun hz => HR.out.row2 (Nat.le_refl _) HZ.out (row_put _ _ _ _),HB.out⟩
theorem room5 (A P : Option Addr) (n c Kp d : Nat) (m : PM) (h : Int) (A1 : Option Addr) (c1 : Nat) (x : List Int) (w : World) (hm : MemIn w A P n c Kp d m) (h1 : 1368 ≤ h) (h2 : h ≤ (n : Int)) (hx : Takes w 0 A1 c1 x) :
    Calls Tryz.prog 171 #[.agg #[.slice A n c,.slice P Kp d],.int .i64 h,.slice A1 0 c1] w (LayOut P Kp (layM m h (upB h)) (layP m.1.length h (misN h)) (layC m.1.length h (misN h)) w):=by
  (try rw [hm.is.len1]);have hp:=(endB_iff n h).2 ⟨by omega,h2⟩;show Calls _ _ _ _ (LayOut P Kp (layM m h (upB h)) (layP n h (misN h)) (layC n h (misN h)) w);have HM:=zqh hm;have HC:=zqh fun w (hm : MemIn w A P n c Kp d m) => up_atp A P n c Kp d m h w (zqh hm.is) (by have:=hm.n2; omega) (by have:=hm.k1; omega) hp
  generalize layC n h (misN h) = C at HC ⊢;generalize layP n h (misN h) = E at HC ⊢;generalize layM m h (upB h) = M at HC ⊢;clear hm hx;go_enter Tryz.func171,Tryz.ntmps171;go_upto_region 1 with fail
  generalize hw1 : World.alloc (World.alloc _ _) _ = w1;have kb : Below w.heap.size w w1:=by rw [← hw1]; exact al_two _ _ _
  have kx : Box w1 w.heap.size (.slice A n c) (.slice P Kp d) 29:=by rw [← hw1]; exact (box_two w _ _ _ _ _ _).1
  have kz : Box w1 (w.heap.size + 1) (.slice none 0 0) (.slice none 0 0) 29:=by rw [← hw1]; exact (box_two w _ _ _ _ _ _).2
  have KS : Hid (w1.heap.size = w.heap.size + 1 + 1):=by show _ = _; rw [← hw1]; simp
  clear hw1;have X1:=zqh kx;have Z1:=zqh kz;have B1:=zqh kb;obtain ⟨q0,q1,_,_⟩:=kx.use;clear kb kx kz;(go_wp2_with fail);refine (HC.out _ (HM.out.keep B1.out)).mono ?_;rintro e w3 ⟨A2,n2,c2,P2,K2,d2,rfl,hr,bb⟩;have Z3:=zqh (Z1.out.keep bb);have B3:=zqh (below_then B1.out bb);have HR:=zqh (hr.le B1.out.size);obtain ⟨z0,z1,z2,z3⟩:=Z3.out.use;clear HC bb hr q0 q1;(go_wp2_with fail);refine bodyPost_ret (v:=.tuple #[.agg #[.slice A2 n2 c2,.slice P2 K2 d2],.int .i64 E,.int .i64 C]) ?_ rfl ?_
  · obtain ⟨r0,r1⟩:=Z3.out.got (.slice A2 n2 c2) (.slice P2 K2 d2)
    simp [results,Tryz.results171,go_sem,r0,r1]
  · exact ⟨_,_,_,_,_,_,rfl,fun _ => HR.out.row2 (by omega) Z3.out (row_put _ _ _ _),(B3.out.setCell (by simp) _).setCell (by simp) _⟩
theorem room2 (A P : Option Addr) (n c Kp d : Nat) (m : PM) (h : Int) (A1 : Option Addr) (c1 : Nat) (x : List Int) (w : World) (hm : MemIn w A P n c Kp d m) (h1 : 1368 ≤ h) (h2 : h ≤ (n : Int)) (hx : Takes w 1 A1 c1 x) :
    Calls Tryz.prog 164 #[.agg #[.slice A n c,.slice P Kp d],.int .i64 h,.slice A1 1 c1] w (LayOut P Kp (m) (movP m.1.length 1368 h (x.getD 0 0)) (movC m.1.length 1368 h (x.getD 0 0)) w):=by
  obtain ⟨a,g,o,rfl,rfl,hg,c0,ha⟩:=hx.one;(try rw [hm.is.len1]);have hp:=(endB_iff n h).2 ⟨by omega,h2⟩;show Calls _ _ _ _ (LayOut P Kp (m) (movP n 1368 h a) (movC n 1368 h a) w);have HM:=zqh hm;have HC:=zqh fun w => allot_at A P n c Kp d 1368 h a w (by have:=hm.n2; omega) hp ((endB_iff n 1368).2 ⟨by omega,by omega⟩)
  generalize movC n 1368 h a = C at HC ⊢;generalize movP n 1368 h a = E at HC ⊢;have C0:=zqh c0;clear hm hx c0;go_enter Tryz.func164,Tryz.ntmps164;go_upto_region 1 with fail
  generalize hw1 : World.alloc (World.alloc _ _) _ = w1;have kb : Below w.heap.size w w1:=by rw [← hw1]; exact al_two _ _ _
  have kx : Box w1 w.heap.size (.slice A n c) (.slice P Kp d) 29:=by rw [← hw1]; exact (box_two w _ _ _ _ _ _).1
  have kz : Box w1 (w.heap.size + 1) (.slice none 0 0) (.slice none 0 0) 29:=by rw [← hw1]; exact (box_two w _ _ _ _ _ _).2
  have KS : Hid (w1.heap.size = w.heap.size + 1 + 1):=by show _ = _; rw [← hw1]; simp
  clear hw1;have X1:=zqh kx;have Z1:=zqh kz;have B1:=zqh kb;clear kb kx kz;refine wp_region_noPanic ?_;refine wp_region_held_drew (S:=fun a => Below w.heap.size w a ∧ Box a w.heap.size (.slice A n c) (.slice P Kp d) 29 ∧ Box a (w.heap.size + 1) (.slice none 0 0) (.slice none 0 0) 29) (by kernel_rfl) ?_ (fun hHeld => ?_)
  · exact ⟨B1.out.drew,X1.out,Z1.out⟩
  refine zqt (i:=0) (v:=?v0a25) ?y0a25 ?r0a25
  case y0a25 =>
    intro u hSu;(try dsimp only at hSu);obtain ⟨q0,q1,_,_⟩:=hSu.2.1.use;go_simp;(try with_reducible rfl)
  (try simp only [zq,Act.put]);refine zqa 2 ?_;refine zqa 3 ?_;refine zqa 4 ?_;refine zqf 5 (fun u hSu => (hSu.1.cell (p:=⟨g,o,none⟩) hg).trans C0.out) ?_;refine zqr 1 fun K hK => ?_
  go_simp;refine (start_any _).mono ?_;rintro e u1 ⟨rfl,rfl⟩;have hN:=hHeld;(go_wp2_with fail);clear hHeld;refine hK.out _ _ hN (fun hHeld => ?_);clear hK K hN;(try simp only [zq,Act.put]);refine zqr 6 fun K hK => ?_
  go_simp;refine (HC.out _).mono ?_;rintro e u1 ⟨rfl,bb⟩;have hN : Below w.heap.size w u1 ∧ Box u1 w.heap.size (.slice A n c) (.slice P Kp d) 29 ∧ Box u1 (w.heap.size + 1) (.slice none 0 0) (.slice none 0 0) 29:=⟨below_then hHeld.1 bb,hHeld.2.1.keep bb,hHeld.2.2.keep bb⟩;have HH:=zqh hN;(go_wp2_with fail);clear bb;clear hHeld;refine hK.out _ _ hN (fun hHeld => ?_);clear hK K hN;(try simp only [zq,Act.put]);refine zqa 7 ?_;refine zqa 8 ?_;refine zqa 9 ?_;refine zqa 10 ?_;refine zqa 11 ?_;refine wpAnyH_done (by kernel_rfl) ?_ _;refine NoPanic.normal ?_;obtain ⟨B2,X2,Z2⟩:=HH.out;have ZZ:=zqh Z2;have BB:=zqh B2;have MM:=zqh (HM.out.keep B2);obtain ⟨q0,q1,_,_⟩:=X2.use;obtain ⟨z0,z1,z2,z3⟩:=Z2.use;clear HH X2 Z2 B2;(go_wp2_with fail);refine bodyPost_ret (v:=.tuple #[.agg #[.slice A n c,.slice P Kp d],.int .i64 E,.int .i64 C]) ?_ rfl ?_
  · obtain ⟨r0,r1⟩:=ZZ.out.got (.slice A n c) (.slice P Kp d)
    simp [results,Tryz.results164,go_sem,r0,r1]
  · exact ⟨_,_,_,_,_,_,rfl,fun hz => (memP_same MM.out.is : MemP P Kp w.heap.size _ _ _).row2 (Nat.le_refl _) ZZ.out (row_put _ _ _ _),(BB.out.setCell (by simp) _).setCell (by simp) _⟩


abbrev qC (q : Rq) : Array Value:=#[.int .i64 q.kind,.int .i64 q.arg,.int .i64 q.hand,.int .i64 q.rank,.int .i64 q.delay,.int .i64 q.id]
abbrev qV (q : Rq) : Value:=.agg #[.int .i64 q.kind,.int .i64 q.arg,.int .i64 q.hand,.int .i64 q.rank,.int .i64 q.delay,.int .i64 q.id]
abbrev rq0 : Rq:=⟨0,0,0,0,0,0⟩
def QBox (w : World) (b : Nat) (q : Rq) : Prop:=w.heap[b]? = some (.cells (qC q) 119 (0,0))
theorem QBox.lt {w : World} {b : Nat} {q : Rq} (h : QBox w b q) : b < w.heap.size:=(Array.getElem?_eq_some_iff.1 h).1
theorem QBox.keep {w w' : World} {b : Nat} {q : Rq} (h : QBox w b q) (k : Below w.heap.size w w') : QBox w' b q:=(k.block b h.lt).trans h
theorem QBox.use {w : World} {b : Nat} {q : Rq} (h : QBox w b q) : w.cell? ⟨b,0,none⟩ = some (.int .i64 q.kind) ∧ w.cell? ⟨b,1,none⟩ = some (.int .i64 q.arg) ∧ w.cell? ⟨b,2,none⟩ = some (.int .i64 q.hand) ∧ w.cell? ⟨b,3,none⟩ = some (.int .i64 q.rank) ∧ w.cell? ⟨b,4,none⟩ = some (.int .i64 q.delay) ∧ w.cell? ⟨b,5,none⟩ = some (.int .i64 q.id):=by
  unfold QBox at h;refine ⟨?_,?_,?_,?_,?_,?_⟩ <;> simp [World.cell?,h]
theorem qbox_new (w : World) (q : Rq) : QBox (w.alloc (.cells (qC q) 119)) w.heap.size q:=one_newN w _ _
theorem qbox_row {w : World} {b b' : Nat} {q : Rq} (h : QBox w b q) (hne : b ≠ b') (cs : Array Value) : QBox (w.setRow b' cs) b q:=by
  unfold QBox at h ⊢;rw [setRow_other w b' b cs (by omega)];exact h
theorem QOwns.sl {w : World} {base n : Nat} {v : Value} {l : List Rq} (h : QOwns w base v n l) : ∃ B c,v = .slice B n c ∧ ∀ p,B = some p → base ≤ p.block:=by
  rcases h.2 with ⟨rfl,h0⟩ | ⟨g,cap,cur,rfl,hg,_⟩
  · exact ⟨none,0,by rw [h0],fun p e => by cases e⟩
  · exact ⟨_,_,rfl,fun p e => by cases e; exact hg⟩
theorem hasHandler_any (k : VmK) (L : VmL) (q : Rq) (w : World) (h : IsVm w k L) (hn : L.h.length ≤ 1000) : Calls Tryz.prog 256 #[vmV k,qV q] w fun e w' => e = .returned (.bool (hasB L q.hand q.rank)) ∧ Below w.heap.size w w':=by
  have e1 : L.h.length = k.hn:=h.h.len;obtain ⟨D,hD⟩ : ∃ D,hasB L q.hand q.rank = D:=⟨_,rfl⟩;rw [hD];unfold hasB at hD;rw [e1] at hD;clear h
  by_cases h1 : 0 ≤ q.hand
  · have g1 : decide (0 ≤ q.hand) = true:=by simpa using h1
    by_cases h2 : q.hand < (k.hn : Int)
    · have g2 : decide (q.hand < (k.hn : Int)) = true:=by simpa using h2
      by_cases h3 : 0 ≤ q.rank
      · have g3 : decide (0 ≤ q.rank) = true:=by simpa using h3
        by_cases h4 : q.rank < 4
        · have g4 : decide (q.rank < 4) = true:=by simpa using h4
          obtain rfl : D = true:=by rw [← hD]; simp; omega
          clear hD e1;go_enter Tryz.func256,Tryz.ntmps256;go_upto_region 1 with fail
          generalize hw1 : World.alloc (World.alloc _ _) _ = w1;have kb : Below w.heap.size w w1:=by rw [← hw1]; exact al_two _ _ _
          have kx : VBox w1 w.heap.size k:=by rw [← hw1]; exact (in_two w k _).2
          have kz : QBox w1 (w.heap.size + 1) q:=by rw [← hw1]; have:=qbox_new (w.alloc (.cells (vmC k) 37)) q; rwa [World.size_alloc] at this
          obtain ⟨p0,p1,p2,p3,p4,p5,p6,p7,p8,p9,p10,p11,p12,p13,p14,p15,p16,p17,p18,p19,p20,p21,p22⟩:=kx.use;clear p0 p1 p2 p3 p4 p5 p6 p7 p8 p9 p10 p11 p12 p13 p14 p15 p16 p17 p18 p19 p20 p21;obtain ⟨r0,r1,r2,r3,r4,r5⟩:=kz.use;clear hw1 kx kz r0 r1 r4 r5;have B1:=zqh kb;clear kb;(go_wp2_with fail);go_ret;exact ⟨rfl,B1.out⟩
        · have g4 : decide (q.rank < 4) = false:=by simpa using h4
          obtain rfl : D = false:=by rw [← hD]; simp; omega
          clear hD e1;go_enter Tryz.func256,Tryz.ntmps256;go_upto_region 1 with fail
          generalize hw1 : World.alloc (World.alloc _ _) _ = w1;have kb : Below w.heap.size w w1:=by rw [← hw1]; exact al_two _ _ _
          have kx : VBox w1 w.heap.size k:=by rw [← hw1]; exact (in_two w k _).2
          have kz : QBox w1 (w.heap.size + 1) q:=by rw [← hw1]; have:=qbox_new (w.alloc (.cells (vmC k) 37)) q; rwa [World.size_alloc] at this
          obtain ⟨p0,p1,p2,p3,p4,p5,p6,p7,p8,p9,p10,p11,p12,p13,p14,p15,p16,p17,p18,p19,p20,p21,p22⟩:=kx.use;clear p0 p1 p2 p3 p4 p5 p6 p7 p8 p9 p10 p11 p12 p13 p14 p15 p16 p17 p18 p19 p20 p21;obtain ⟨r0,r1,r2,r3,r4,r5⟩:=kz.use;clear hw1 kx kz r0 r1 r4 r5;have B1:=zqh kb;clear kb;(go_wp2_with fail);go_ret;exact ⟨rfl,B1.out⟩
      · have g3 : decide (0 ≤ q.rank) = false:=by simpa using h3
        obtain rfl : D = false:=by rw [← hD]; simp; omega
        clear hD e1;go_enter Tryz.func256,Tryz.ntmps256;go_upto_region 1 with fail
        generalize hw1 : World.alloc (World.alloc _ _) _ = w1;have kb : Below w.heap.size w w1:=by rw [← hw1]; exact al_two _ _ _
        have kx : VBox w1 w.heap.size k:=by rw [← hw1]; exact (in_two w k _).2
        have kz : QBox w1 (w.heap.size + 1) q:=by rw [← hw1]; have:=qbox_new (w.alloc (.cells (vmC k) 37)) q; rwa [World.size_alloc] at this
        obtain ⟨p0,p1,p2,p3,p4,p5,p6,p7,p8,p9,p10,p11,p12,p13,p14,p15,p16,p17,p18,p19,p20,p21,p22⟩:=kx.use;clear p0 p1 p2 p3 p4 p5 p6 p7 p8 p9 p10 p11 p12 p13 p14 p15 p16 p17 p18 p19 p20 p21;obtain ⟨r0,r1,r2,r3,r4,r5⟩:=kz.use;clear hw1 kx kz r0 r1 r4 r5;have B1:=zqh kb;clear kb;(go_wp2_with fail);go_ret;exact ⟨rfl,B1.out⟩
    · have g2 : decide (q.hand < (k.hn : Int)) = false:=by simpa using h2
      obtain rfl : D = false:=by rw [← hD]; simp; omega
      clear hD e1;go_enter Tryz.func256,Tryz.ntmps256;go_upto_region 1 with fail
      generalize hw1 : World.alloc (World.alloc _ _) _ = w1;have kb : Below w.heap.size w w1:=by rw [← hw1]; exact al_two _ _ _
      have kx : VBox w1 w.heap.size k:=by rw [← hw1]; exact (in_two w k _).2
      have kz : QBox w1 (w.heap.size + 1) q:=by rw [← hw1]; have:=qbox_new (w.alloc (.cells (vmC k) 37)) q; rwa [World.size_alloc] at this
      obtain ⟨p0,p1,p2,p3,p4,p5,p6,p7,p8,p9,p10,p11,p12,p13,p14,p15,p16,p17,p18,p19,p20,p21,p22⟩:=kx.use;clear p0 p1 p2 p3 p4 p5 p6 p7 p8 p9 p10 p11 p12 p13 p14 p15 p16 p17 p18 p19 p20 p21;obtain ⟨r0,r1,r2,r3,r4,r5⟩:=kz.use;clear hw1 kx kz r0 r1 r4 r5;have B1:=zqh kb;clear kb;(go_wp2_with fail);go_ret;exact ⟨rfl,B1.out⟩
  · have g1 : decide (0 ≤ q.hand) = false:=by simpa using h1
    obtain rfl : D = false:=by rw [← hD]; simp; omega
    clear hD e1;go_enter Tryz.func256,Tryz.ntmps256;go_upto_region 1 with fail
    generalize hw1 : World.alloc (World.alloc _ _) _ = w1;have kb : Below w.heap.size w w1:=by rw [← hw1]; exact al_two _ _ _
    have kx : VBox w1 w.heap.size k:=by rw [← hw1]; exact (in_two w k _).2
    have kz : QBox w1 (w.heap.size + 1) q:=by rw [← hw1]; have:=qbox_new (w.alloc (.cells (vmC k) 37)) q; rwa [World.size_alloc] at this
    obtain ⟨p0,p1,p2,p3,p4,p5,p6,p7,p8,p9,p10,p11,p12,p13,p14,p15,p16,p17,p18,p19,p20,p21,p22⟩:=kx.use;clear p0 p1 p2 p3 p4 p5 p6 p7 p8 p9 p10 p11 p12 p13 p14 p15 p16 p17 p18 p19 p20 p21;obtain ⟨r0,r1,r2,r3,r4,r5⟩:=kz.use;clear hw1 kx kz r0 r1 r4 r5;have B1:=zqh kb;clear kb;(go_wp2_with fail);go_ret;exact ⟨rfl,B1.out⟩


theorem asked_any (k : VmK) (L : VmL) (q : Rq) (w : World) (ok : Ok k L) (h : IsVm w k L) : Calls Tryz.prog 257 #[vmV k,qV q] w (TurnOut ⟨postC L,[],k,{ L with e:=L.e ++ [q] }⟩ k w):=by
  have e1 : L.e.length = k.en:=h.e.len;have e2:=ok.e1;have V0:=zqh h;obtain ⟨D,hD⟩ : ∃ D,postC L = D:=⟨_,rfl⟩;rw [hD];unfold postC at hD;rw [e1] at hD;have E1:=zqh e1;have hen : k.en ≤ 100:=by omega
  clear h ok e1 e2
  by_cases h1 : k.en < 16
  · have g1 : decide ((16 : Int) ≤ (k.en : Int)) = false:=by simp; omega
    obtain rfl : D = 0:=by rw [← hD]; rw [if_pos h1]
    clear hD;go_enter Tryz.func257,Tryz.ntmps257;go_upto_region 1 with fail
    generalize hw1 : World.alloc (World.alloc (World.alloc _ _) _) _ = w1;have kb : Below w.heap.size w w1:=by rw [← hw1]; exact below_then (al_two _ _ _) (al_one _ _)
    have kx : VBox w1 w.heap.size k:=by rw [← hw1]; exact (in_two w k _).2.keep (al_one _ _)
    have ky : QBox w1 (w.heap.size + 1) q:=by rw [← hw1]; have:=(qbox_new (w.alloc (.cells (vmC k) 37)) q).keep (al_one _ (.cells (vmC vm0) 37)); rwa [World.size_alloc] at this
    have kz : VBox w1 (w.heap.size + 1 + 1) vm0:=by rw [← hw1]; have:=vbox_zero ((w.alloc (.cells (vmC k) 37)).alloc (.cells (qC q) 119)); rwa [World.size_alloc,World.size_alloc] at this
    have KS : Hid (w1.heap.size = w.heap.size + 3):=by show _ = _; rw [← hw1]; simp
    clear hw1;have X1:=zqh kx;have Y1:=zqh ky;have Z1:=zqh kz;have B1:=zqh kb;obtain ⟨p0,p1,p2,p3,p4,p5,p6,p7,p8,p9,p10,p11,p12,p13,p14,p15,p16,p17,p18,p19,p20,p21,p22⟩:=kx.use;clear p0 p1 p2 p3 p4 p5 p6 p7 p8 p9 p10 p11 p12 p13 p14 p15 p17 p18 p19 p20 p21 p22;obtain ⟨r0,r1,r2,r3,r4,r5⟩:=ky.use;clear kx ky kz kb;go_upto_region 3 with fail
    (go_wp2_with fail);generalize hu : World.alloc w1 _ = u;have bu : Below w1.heap.size w1 u:=by rw [← hu]; exact al_one _ _
    have hq:=rqs_newone w1 q;rw [hu] at hq;have su : u.heap.size = w1.heap.size + 1:=by rw [← hu]; simp
    rw [← su];refine (qcat_any k.eA (some ⟨w1.heap.size,0,none⟩) k.en k.ec 1 1 L.e [q] _ _ (pair_new u _ _ _).1 (pair_new u _ _ _).2 (((V0.out.e.keep B1.out).keep bu).keep (al_one _ _)) (hq.keep (al_one _ _)) (by rw [E1.out]; omega) (by simp)).mono ?_;rintro e u5 ⟨v5,rfl,ho,b5⟩;have b6:=below_then (below_then bu (al_one u _)) b5;obtain ⟨n5,h55⟩ : ∃ n5,(L.e ++ [q]).length = n5:=⟨_,rfl⟩;rw [h55] at ho;obtain ⟨B5,c5,rfl,hn5⟩:=ho.sl;have HQ:=zqh ho.rqs;have N5 : Hid (∀ p,B5 = some p → w1.heap.size ≤ p.block):=zqh fun p hp => Nat.le_trans (by simp; omega) (hn5 p hp)
    have X5:=zqh (X1.out.keep b6);have Z5:=zqh (Z1.out.keep b6);have B5w:=zqh (below_then B1.out b6);have S5:=zqh b6.size;have F16:=X5.out.free.2.2.2.2.2.2.2.2.2.2.2.2.2.2.2.2.1;obtain ⟨p0,p1,p2,p3,p4,p5,p6,p7,p8,p9,p10,p11,p12,p13,p14,p15,P16,p17,p18,p19,p20,p21,p22⟩:=X5.out.use;clear p0 p1 p2 p3 p4 p5 p6 p7 p8 p9 p10 p11 p12 p13 p14 p15 p17 p18 p19 p20 p21 p22;clear p16 r0 r1 r2 r3 r4 r5 ho b5 b6 hn5 hq bu su hu h55;go_upto_region 4 with fail
    generalize hV : World.setCell _ _ _ = V;have XW : Hid (VBox V w.heap.size { k with eA:=B5,en:=n5,ec:=c5 }):=by show VBox _ _ _; rw [← hV]; exact X5.out.put_e _ _ _
    have ZW : Hid (VBox V (w.heap.size + 1 + 1) vm0):=by show VBox _ _ _; rw [← hV]; exact vset_far Z5.out (by omega)
    have BW : Hid (Below w.heap.size w V):=by show Below _ _ _; rw [← hV]; exact B5w.out.setCell (Nat.le_refl _) _
    have EW : Hid (Ex (fun g => g = w.heap.size ∨ g = w.heap.size + 1 + 1) u5 V):=by show Ex _ _ _; rw [← hV]; exact (Ex.refl _ _).cell (.inl rfl) _
    clear hV F16 P16;(go_wp2_with (first | (refine wpList_vload (by rfl) _ rfl _ _ rfl XW.out ?_) | (refine wpList_vstore (by rfl) _ _ rfl _ vm0 _ rfl rfl ZW.out ?_)));have kb2:=below_setRow BW.out (show w.heap.size ≤ w.heap.size + 1 + 1 by omega) (vmC { k with eA:=B5,en:=n5,ec:=c5 });refine bodyPost_ret (res_ct rfl _ _ _ _ rfl (vrow ZW.out _)) rfl ⟨{ k with eA:=B5,en:=n5,ec:=c5 },rfl,fun hz => ?_,kb2⟩;have v2:=V0.out.keep B5w.out;have hl : MLoc w1.heap.size { k with eA:=B5,en:=n5,ec:=c5 } k:=⟨.refl _ _ _,.refl _ _ _,.inr N5.out,⟨rfl,rfl⟩,⟨rfl,rfl⟩,⟨rfl,rfl⟩,⟨rfl,rfl⟩⟩;have hj : IsVm u5 { k with eA:=B5,en:=n5,ec:=c5 } { L with e:=L.e ++ [q] }:=⟨v2.m,v2.d,v2.r,v2.f,v2.dict,v2.o,v2.q,HQ.out,v2.h⟩;refine ⟨V0.out.ex hj hl (EW.out.row (.inr rfl) _) ?_,⟨rfl,rfl,rfl,rfl,rfl,rfl,rfl,rfl,rfl,rfl,rfl,rfl,rfl⟩,hl.le (by have:=KS.out; omega)⟩;intro g hg h;have:=KS.out
    rcases h with rfl | rfl
    · exact ⟨by omega,by omega,vbox_nou8 X5.out⟩
    · exact ⟨by omega,by omega,vbox_nou8 Z5.out⟩
  · have g1 : decide ((16 : Int) ≤ (k.en : Int)) = true:=by simp; omega
    obtain rfl : D = -257:=by rw [← hD]; rw [if_neg h1]
    clear hD;go_enter Tryz.func257,Tryz.ntmps257;go_upto_region 1 with fail
    generalize hw1 : World.alloc (World.alloc (World.alloc _ _) _) _ = w1;have kb : Below w.heap.size w w1:=by rw [← hw1]; exact below_then (al_two _ _ _) (al_one _ _)
    have kx : VBox w1 w.heap.size k:=by rw [← hw1]; exact (in_two w k _).2.keep (al_one _ _)
    have ky : QBox w1 (w.heap.size + 1) q:=by rw [← hw1]; have:=(qbox_new (w.alloc (.cells (vmC k) 37)) q).keep (al_one _ (.cells (vmC vm0) 37)); rwa [World.size_alloc] at this
    have kz : VBox w1 (w.heap.size + 1 + 1) vm0:=by rw [← hw1]; have:=vbox_zero ((w.alloc (.cells (vmC k) 37)).alloc (.cells (qC q) 119)); rwa [World.size_alloc,World.size_alloc] at this
    have KS : Hid (w1.heap.size = w.heap.size + 3):=by show _ = _; rw [← hw1]; simp
    clear hw1;have X1:=zqh kx;have Y1:=zqh ky;have Z1:=zqh kz;have B1:=zqh kb;obtain ⟨p0,p1,p2,p3,p4,p5,p6,p7,p8,p9,p10,p11,p12,p13,p14,p15,p16,p17,p18,p19,p20,p21,p22⟩:=kx.use;clear p0 p1 p2 p3 p4 p5 p6 p7 p8 p9 p10 p11 p12 p13 p14 p15 p17 p18 p19 p20 p21 p22;obtain ⟨r0,r1,r2,r3,r4,r5⟩:=ky.use;clear kx ky kz kb;clear r0 r1 r2 r3 r4 r5;(go_wp2_with (first | (refine wpList_vload (by rfl) _ rfl w.heap.size k rfl X1.out ?_) | (refine wpList_vstore (by rfl) _ _ rfl _ vm0 k rfl rfl Z1.out ?_)));have kb2:=below_setRow B1.out (show w.heap.size ≤ w.heap.size + 1 + 1 by omega) (vmC k);exact bodyPost_ret (res_ct rfl _ _ _ _ rfl (vrow Z1.out _)) rfl ⟨k,rfl,fun hz => absurd (show (-257 : Int) = 0 from hz) (by decide),kb2⟩
end Go.Proofs.YtcmldhjicjmmgaaGreatDoor
