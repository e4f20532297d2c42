/- Part 29. -/
import Derived.Test.YtlgnijhemfkflaaGreatDoorPaBB
set_option linter.unusedVariables false
set_option linter.unusedSimpArgs false
set_option maxRecDepth 100000
set_option maxHeartbeats 4000000

namespace Go.Proofs.YtlgnijhemfkflaaGreatDoor
open Go.RowKit


def Makes (F : VmK → VmL → Eff) (w : World) (e : Ending) (w' : World) : Prop:=∃ d,e = .returned d ∧ IsDeed w' d F ∧ Below w.heap.size w w'
abbrev rkF (o : List Int → List Int) (C : List Int → Int) : Fn3:=fun k L x => ⟨C x,o x,k,L⟩
abbrev tnF (f : Fn3) : Fn3:=fun k L x => ⟨(f k L x).c,[],(f k L x).K,(f k L x).L⟩
abbrev feF (o : PM → Int → List Int) (C : PM → Int → Int) : Fn3:=fun k L x => ⟨C L.m (x.getD 0 0),o L.m (x.getD 0 0),k,L⟩
abbrev teF (o : VmK → VmL → Int) : Fn3:=fun k L x => ⟨0,[o k L],k,L⟩
abbrev stF (f : PM → List Int → PM) (C : PM → List Int → Int) : Fn3:=fun k L x => memE k L (f L.m x) (C L.m x)
abbrev laF (f : PM → Int → List Int → PM) (p C : PM → Int → List Int → Int) : Fn3:=fun k L x => hereE k L (f L.m k.here x) (p L.m k.here x) (C L.m k.here x)
abbrev prF (s : VmK → VmL → List Int → List UInt8) (C : VmK → VmL → List Int → Int) : Fn3:=fun k L x => printE k L (s k L x) (C k L x)
abbrev hoF (f : Bool → List UInt8 → Int → List UInt8) (C : Bool → List UInt8 → Int → Int) : Fn3:=fun k L x => picE k L (f k.qo L.q (x.getD 0 0)) k.qo [] (C k.qo L.q (x.getD 0 0))
theorem taking_is (t : Nat) (f : Fn3) (ht : t ≤ 4) (ho : ∀ k L x,(f k L x).o.length ≤ 4) (w : World) (v : Value) (h0 : IsAct w v t f) : Calls Tryz.prog 144 #[.int .i64 (t : Int),v] w (Makes (deedE t f) w):=by
  obtain ⟨g,cs,rfl,eg,hc⟩:=h0;refine (taking_any t g cs w).mono ?_;rintro e w1 ⟨p,q,rfl,cp,cq,⟨lp,lq⟩,kb⟩;refine ⟨_,rfl,⟨_,_,rfl,(enters_of Tryz.func241 (by kernel_rfl) rfl),fun w2 k L b2 ok hv => ?_⟩,kb⟩;have hc2 : ∀ w k L A c x,Kp w1 w → Ok k L → IsVm w k L → Takes w t A c x → Calls Tryz.prog g (#[vmV k,.slice A t c] ++ cs) w (ActOut (f k L x) k w):=fun w3 k L A c x b3 => hc w3 k L A c x (kp_after kb b3)
  by_cases hu : L.d.length < t
  · have e1 : deedE t f k L = ⟨-4,[],k,L⟩:=by unfold deedE; rw [if_pos hu]
    rw [e1];exact take_under w1 p q g cs t f eg ht hc2 w2 k L b2 ((b2.cell lp).trans cp) ((b2.cell lq).trans cq) (Nat.lt_of_lt_of_le lp b2.size) (Nat.lt_of_lt_of_le lq b2.size) ok hv hu
  · obtain ⟨low,hlow⟩ : ∃ low,L.d.length = low + t:=⟨L.d.length - t,by omega⟩
    exact take_more w1 p q g cs t f eg ht hc2 w2 k L b2 ((b2.cell lp).trans cp) ((b2.cell lq).trans cq) (Nat.lt_of_lt_of_le lp b2.size) (Nat.lt_of_lt_of_le lq b2.size) ok hv low hlow (ho k L)
theorem reckons_is (t : Nat) (o : List Int → List Int) (C : List Int → Int) (ht : t ≤ 4) (ho : ∀ x,(o x).length ≤ 4) (w : World) (v : Value) (h0 : IsReck w v t o C) : Calls Tryz.prog 78 #[.int .i64 (t : Int),v] w (Makes (deedE t (rkF o C)) w):=by
  obtain ⟨g,cs,rfl,eg,hc⟩:=h0;have hmf : ∀ (fn : Fn) (first cap : Array Value) (w : World),(Instr.makeFunc fn first cap).run Tryz.prog w = .ok (.func fn first cap) w:=fun _ _ _ _ => rfl
  go_enter Tryz.func78,Tryz.ntmps78;(go_wp2_with fail);generalize hw1 : World.alloc _ _ = w1;have kb : Below w.heap.size w w1:=by rw [← hw1]; exact al_one _ _
  have c0 : w1.cell? ⟨w.heap.size,0,none⟩ = some (.func (.func g) #[] cs):=by rw [← hw1]; simp
  have hl : w.heap.size < w1.heap.size:=by rw [← hw1]; simp
  have HA : IsAct w1 (.func (.func 200) #[] #[.pointer (some ⟨w.heap.size,0,none⟩)]) t (rkF o C):=⟨_,_,rfl,(enters_of Tryz.func200 (by kernel_rfl) rfl),fun w2 k L A c x b2 ok hv hx => reckons1 w1 _ g cs t o C eg (fun w3 A c x b3 => hc w3 A c x (kp_after kb b3)) w2 k L A c x b2 ((b2.cell hl).trans c0) (Nat.lt_of_lt_of_le hl b2.size) hv hx⟩;have B1:=zqh kb;clear c0 kb hw1;refine (taking_is t _ ht (fun _ _ x => ho x) w1 _ HA).mono ?_;rintro e w2 ⟨d,rfl,hd,bb⟩;have B2:=zqh (below_then B1.out bb);clear B1 bb HA hl;(go_wp2_with fail);go_ret;exact ⟨d,rfl,hd,B2.out⟩
theorem turns_is (t : Nat) (f : Fn3) (ht : t ≤ 4) (w : World) (v : Value) (h0 : IsTurn w v t f) : Calls Tryz.prog 141 #[.int .i64 (t : Int),v] w (Makes (deedE t (tnF f)) w):=by
  obtain ⟨g,cs,rfl,eg,hc⟩:=h0;have hmf : ∀ (fn : Fn) (first cap : Array Value) (w : World),(Instr.makeFunc fn first cap).run Tryz.prog w = .ok (.func fn first cap) w:=fun _ _ _ _ => rfl
  go_enter Tryz.func141,Tryz.ntmps141;(go_wp2_with fail);generalize hw1 : World.alloc _ _ = w1;have kb : Below w.heap.size w w1:=by rw [← hw1]; exact al_one _ _
  have c0 : w1.cell? ⟨w.heap.size,0,none⟩ = some (.func (.func g) #[] cs):=by rw [← hw1]; simp
  have hl : w.heap.size < w1.heap.size:=by rw [← hw1]; simp
  have HA : IsAct w1 (.func (.func 240) #[] #[.pointer (some ⟨w.heap.size,0,none⟩)]) t (tnF f):=⟨_,_,rfl,(enters_of Tryz.func240 (by kernel_rfl) rfl),fun w2 k L A c x b2 ok hv hx => turns1 w1 _ g cs t f eg (fun w3 k L A c x b3 => hc w3 k L A c x (kp_after kb b3)) w2 k L A c x b2 ((b2.cell hl).trans c0) (Nat.lt_of_lt_of_le hl b2.size) ok hv hx⟩;have B1:=zqh kb;clear c0 kb hw1;refine (taking_is t _ ht (fun _ _ _ => Nat.zero_le _) w1 _ HA).mono ?_;rintro e w2 ⟨d,rfl,hd,bb⟩;have B2:=zqh (below_then B1.out bb);clear B1 bb HA hl;(go_wp2_with fail);go_ret;exact ⟨d,rfl,hd,B2.out⟩
theorem fetches_is (o : PM → Int → List Int) (C : PM → Int → Int) (ho : ∀ m a,(o m a).length ≤ 4) (w : World) (v : Value) (h0 : IsFetch w v o C) : Calls Tryz.prog 110 #[v] w (Makes (deedE 1 (feF o C)) w):=by
  obtain ⟨g,cs,rfl,eg,hc⟩:=h0;have hmf : ∀ (fn : Fn) (first cap : Array Value) (w : World),(Instr.makeFunc fn first cap).run Tryz.prog w = .ok (.func fn first cap) w:=fun _ _ _ _ => rfl
  go_enter Tryz.func110,Tryz.ntmps110;(go_wp2_with fail);generalize hw1 : World.alloc _ _ = w1;have kb : Below w.heap.size w w1:=by rw [← hw1]; exact al_one _ _
  have c0 : w1.cell? ⟨w.heap.size,0,none⟩ = some (.func (.func g) #[] cs):=by rw [← hw1]; simp
  have hl : w.heap.size < w1.heap.size:=by rw [← hw1]; simp
  have HA : IsAct w1 (.func (.func 222) #[] #[.pointer (some ⟨w.heap.size,0,none⟩)]) 1 (feF o C):=⟨_,_,rfl,(enters_of Tryz.func222 (by kernel_rfl) rfl),fun w2 k L A c x b2 ok hv hx => fetches1 w1 _ g cs o C eg (fun w3 A P n c K d m a b3 => hc w3 A P n c K d m a (kp_after kb b3)) w2 k L A c x b2 ((b2.cell hl).trans c0) (Nat.lt_of_lt_of_le hl b2.size) ok hv hx⟩;have B1:=zqh kb;clear c0 kb hw1;refine (taking_is 1 _ (by decide) (fun _ _ _ => ho _ _) w1 _ HA).mono ?_;rintro e w2 ⟨d,rfl,hd,bb⟩;have B2:=zqh (below_then B1.out bb);clear B1 bb HA hl;(go_wp2_with fail);go_ret;exact ⟨d,rfl,hd,B2.out⟩
theorem tells_is (o : VmK → VmL → Int) (w : World) (v : Value) (h0 : IsTell w v o) : Calls Tryz.prog 119 #[v] w (Makes (deedE 0 (teF o)) w):=by
  obtain ⟨g,cs,rfl,eg,hc⟩:=h0;have hmf : ∀ (fn : Fn) (first cap : Array Value) (w : World),(Instr.makeFunc fn first cap).run Tryz.prog w = .ok (.func fn first cap) w:=fun _ _ _ _ => rfl
  go_enter Tryz.func119,Tryz.ntmps119;(go_wp2_with fail);generalize hw1 : World.alloc _ _ = w1;have kb : Below w.heap.size w w1:=by rw [← hw1]; exact al_one _ _
  have c0 : w1.cell? ⟨w.heap.size,0,none⟩ = some (.func (.func g) #[] cs):=by rw [← hw1]; simp
  have hl : w.heap.size < w1.heap.size:=by rw [← hw1]; simp
  have HA : IsAct w1 (.func (.func 225) #[] #[.pointer (some ⟨w.heap.size,0,none⟩)]) 0 (teF o):=⟨_,_,rfl,(enters_of Tryz.func225 (by kernel_rfl) rfl),fun w2 k L A c x b2 ok hv hx => tells1 w1 _ g cs o eg (fun w3 k L b3 => hc w3 k L (kp_after kb b3)) w2 k L A c x b2 ((b2.cell hl).trans c0) (Nat.lt_of_lt_of_le hl b2.size) ok hv hx⟩;have B1:=zqh kb;clear c0 kb hw1;refine (taking_is 0 _ (by decide) (fun _ _ _ => by show 1 ≤ 4; decide) w1 _ HA).mono ?_;rintro e w2 ⟨d,rfl,hd,bb⟩;have B2:=zqh (below_then B1.out bb);clear B1 bb HA hl;(go_wp2_with fail);go_ret;exact ⟨d,rfl,hd,B2.out⟩
theorem stores_is (t : Nat) (f : PM → List Int → PM) (C : PM → List Int → Int) (ht : t ≤ 4) (w : World) (v : Value) (h0 : IsStore w v t f C) : Calls Tryz.prog 102 #[.int .i64 (t : Int),v] w (Makes (deedE t (tnF (stF f C))) w):=by
  obtain ⟨g,cs,rfl,eg,hc⟩:=h0;have hmf : ∀ (fn : Fn) (first cap : Array Value) (w : World),(Instr.makeFunc fn first cap).run Tryz.prog w = .ok (.func fn first cap) w:=fun _ _ _ _ => rfl
  go_enter Tryz.func102,Tryz.ntmps102;(go_wp2_with fail);generalize hw1 : World.alloc _ _ = w1;have kb : Below w.heap.size w w1:=by rw [← hw1]; exact al_one _ _
  have c0 : w1.cell? ⟨w.heap.size,0,none⟩ = some (.func (.func g) #[] cs):=by rw [← hw1]; simp
  have hl : w.heap.size < w1.heap.size:=by rw [← hw1]; simp
  have HA : IsTurn w1 (.func (.func 218) #[] #[.pointer (some ⟨w.heap.size,0,none⟩)]) t (stF f C):=⟨_,_,rfl,(enters_of Tryz.func218 (by kernel_rfl) rfl),fun w2 k L A c x b2 ok hv hx => stores1 w1 _ g cs t f C eg (fun w3 A P n c K d m B c2 x b3 => hc w3 A P n c K d m B c2 x (kp_after kb b3)) w2 k L A c x b2 ((b2.cell hl).trans c0) (Nat.lt_of_lt_of_le hl b2.size) ok hv hx⟩;have B1:=zqh kb;clear c0 kb hw1;refine (turns_is t _ ht w1 _ HA).mono ?_;rintro e w2 ⟨d,rfl,hd,bb⟩;have B2:=zqh (below_then B1.out bb);clear B1 bb HA hl;(go_wp2_with fail);go_ret;exact ⟨d,rfl,hd,B2.out⟩
theorem lays_is (t : Nat) (f : PM → Int → List Int → PM) (p C : PM → Int → List Int → Int) (ht : t ≤ 4) (w : World) (v : Value) (h0 : IsLay w v t f p C) : Calls Tryz.prog 121 #[.int .i64 (t : Int),v] w (Makes (deedE t (tnF (laF f p C))) w):=by
  obtain ⟨g,cs,rfl,eg,hc⟩:=h0;have hmf : ∀ (fn : Fn) (first cap : Array Value) (w : World),(Instr.makeFunc fn first cap).run Tryz.prog w = .ok (.func fn first cap) w:=fun _ _ _ _ => rfl
  go_enter Tryz.func121,Tryz.ntmps121;(go_wp2_with fail);generalize hw1 : World.alloc _ _ = w1;have kb : Below w.heap.size w w1:=by rw [← hw1]; exact al_one _ _
  have c0 : w1.cell? ⟨w.heap.size,0,none⟩ = some (.func (.func g) #[] cs):=by rw [← hw1]; simp
  have hl : w.heap.size < w1.heap.size:=by rw [← hw1]; simp
  have HA : IsTurn w1 (.func (.func 226) #[] #[.pointer (some ⟨w.heap.size,0,none⟩)]) t (laF f p C):=⟨_,_,rfl,(enters_of Tryz.func226 (by kernel_rfl) rfl),fun w2 k L A c x b2 ok hv hx => lays1 w1 _ g cs t f p C eg (fun w3 A P n c K d m h B c2 x b3 => hc w3 A P n c K d m h B c2 x (kp_after kb b3)) w2 k L A c x b2 ((b2.cell hl).trans c0) (Nat.lt_of_lt_of_le hl b2.size) ok hv hx⟩;have B1:=zqh kb;clear c0 kb hw1;refine (turns_is t _ ht w1 _ HA).mono ?_;rintro e w2 ⟨d,rfl,hd,bb⟩;have B2:=zqh (below_then B1.out bb);clear B1 bb HA hl;(go_wp2_with fail);go_ret;exact ⟨d,rfl,hd,B2.out⟩
theorem prints_is (t : Nat) (s : VmK → VmL → List Int → List UInt8) (C : VmK → VmL → List Int → Int) (ht : t ≤ 4) (w : World) (v : Value) (h0 : IsText w v t s C) : Calls Tryz.prog 133 #[.int .i64 (t : Int),v] w (Makes (deedE t (tnF (prF s C))) w):=by
  obtain ⟨g,cs,rfl,eg,hc⟩:=h0;have hmf : ∀ (fn : Fn) (first cap : Array Value) (w : World),(Instr.makeFunc fn first cap).run Tryz.prog w = .ok (.func fn first cap) w:=fun _ _ _ _ => rfl
  go_enter Tryz.func133,Tryz.ntmps133;(go_wp2_with fail);generalize hw1 : World.alloc _ _ = w1;have kb : Below w.heap.size w w1:=by rw [← hw1]; exact al_one _ _
  have c0 : w1.cell? ⟨w.heap.size,0,none⟩ = some (.func (.func g) #[] cs):=by rw [← hw1]; simp
  have hl : w.heap.size < w1.heap.size:=by rw [← hw1]; simp
  have HA : IsTurn w1 (.func (.func 231) #[] #[.pointer (some ⟨w.heap.size,0,none⟩)]) t (prF s C):=⟨_,_,rfl,(enters_of Tryz.func231 (by kernel_rfl) rfl),fun w2 k L A c x b2 ok hv hx => prints1 w1 _ g cs t s C eg (fun w3 k L A c x b3 => hc w3 k L A c x (kp_after kb b3)) w2 k L A c x b2 ((b2.cell hl).trans c0) (Nat.lt_of_lt_of_le hl b2.size) ok hv hx⟩;have B1:=zqh kb;clear c0 kb hw1;refine (turns_is t _ ht w1 _ HA).mono ?_;rintro e w2 ⟨d,rfl,hd,bb⟩;have B2:=zqh (below_then B1.out bb);clear B1 bb HA hl;(go_wp2_with fail);go_ret;exact ⟨d,rfl,hd,B2.out⟩
theorem holds_is (f : Bool → List UInt8 → Int → List UInt8) (C : Bool → List UInt8 → Int → Int) (w : World) (v : Value) (h0 : IsHold w v f C) : Calls Tryz.prog 147 #[v] w (Makes (deedE 1 (tnF (hoF f C))) w):=by
  obtain ⟨g,cs,rfl,eg,hc⟩:=h0;have hmf : ∀ (fn : Fn) (first cap : Array Value) (w : World),(Instr.makeFunc fn first cap).run Tryz.prog w = .ok (.func fn first cap) w:=fun _ _ _ _ => rfl
  go_enter Tryz.func147,Tryz.ntmps147;(go_wp2_with fail);generalize hw1 : World.alloc _ _ = w1;have kb : Below w.heap.size w w1:=by rw [← hw1]; exact al_one _ _
  have c0 : w1.cell? ⟨w.heap.size,0,none⟩ = some (.func (.func g) #[] cs):=by rw [← hw1]; simp
  have hl : w.heap.size < w1.heap.size:=by rw [← hw1]; simp
  have HA : IsTurn w1 (.func (.func 245) #[] #[.pointer (some ⟨w.heap.size,0,none⟩)]) 1 (hoF f C):=⟨_,_,rfl,(enters_of Tryz.func245 (by kernel_rfl) rfl),fun w2 k L A c x b2 ok hv hx => holds1 w1 _ g cs f C eg (fun w3 A n c o l a b3 => hc w3 A n c o l a (kp_after kb b3)) w2 k L A c x b2 ((b2.cell hl).trans c0) (Nat.lt_of_lt_of_le hl b2.size) ok hv hx⟩;have B1:=zqh kb;clear c0 kb hw1;refine (turns_is 1 _ (by decide) w1 _ HA).mono ?_;rintro e w2 ⟨d,rfl,hd,bb⟩;have B2:=zqh (below_then B1.out bb);clear B1 bb HA hl;(go_wp2_with fail);go_ret;exact ⟨d,rfl,hd,B2.out⟩
theorem fetchesOne_is (o C : PM → Int → Int) (w : World) (v : Value) (h0 : IsOne w v o C) : Calls Tryz.prog 100 #[v] w (Makes (deedE 1 (feF (fun m a => [o m a]) C)) w):=by
  obtain ⟨g,cs,rfl,eg,hc⟩:=h0;have hmf : ∀ (fn : Fn) (first cap : Array Value) (w : World),(Instr.makeFunc fn first cap).run Tryz.prog w = .ok (.func fn first cap) w:=fun _ _ _ _ => rfl
  go_enter Tryz.func100,Tryz.ntmps100;(go_wp2_with fail);generalize hw1 : World.alloc _ _ = w1;have kb : Below w.heap.size w w1:=by rw [← hw1]; exact al_one _ _
  have c0 : w1.cell? ⟨w.heap.size,0,none⟩ = some (.func (.func g) #[] cs):=by rw [← hw1]; simp
  have hl : w.heap.size < w1.heap.size:=by rw [← hw1]; simp
  have HA : IsFetch w1 (.func (.func 215) #[] #[.pointer (some ⟨w.heap.size,0,none⟩)]) (fun m a => [o m a]) C:=⟨_,_,rfl,(enters_of Tryz.func215 (by kernel_rfl) rfl),fun w2 A P n c K d m a b2 hm ha => fetchesOne1 w1 _ g cs o C eg (fun w3 A P n c K d m a b3 => hc w3 A P n c K d m a (kp_after kb b3)) c0 hl w2 A P n c K d m a b2 hm ha⟩;have B1:=zqh kb;clear c0 kb hw1;refine (fetches_is _ _ (fun _ _ => by show 1 ≤ 4; decide) w1 _ HA).mono ?_;rintro e w2 ⟨d,rfl,hd,bb⟩;have B2:=zqh (below_then B1.out bb);clear B1 bb HA hl;(go_wp2_with fail);go_ret;exact ⟨d,rfl,hd,B2.out⟩
end Go.Proofs.YtlgnijhemfkflaaGreatDoor

namespace Go.Proofs.YtlgnijhemfkflaaGreatDoor
open Go.RowKit


theorem store_lens (m : PM) (p n : Int) : (storeF m p n).1.length = m.1.length ∧ (storeF m p n).2.length ≤ m.2.length + 1:=by
  unfold storeF writeF
  split
  · split
    · rename_i h
      exact ⟨layF_len h.1,by simp⟩
    · exact ⟨rfl,by omega⟩
  · exact ⟨rfl,by omega⟩
theorem raised_any (A P : Option Addr) (n c K d : Nat) (m : PM) (a b : Int) (w : World) (hm : MemIn w A P n c K d m) : Calls Tryz.prog 106 #[.agg #[.slice A n c,.slice P K d],.int .i64 a,.int .i64 b] w (MemOut P K (storeF m a (wrap64 (fetchF m a + b))) (cellC n a) w):=by
  obtain ⟨C,hC⟩ : ∃ C,cellC n a = C:=⟨_,rfl⟩;have HF:=zqh fun w h => fetch_at A P n c K d m a w (zqh h) (by have:=hm.n2; omega)
  have HS:=zqh fun w h => store_atp A P n c K d m a (wrap64 (fetchF m a + b)) w (zqh h) (by have:=hm.n2; omega) (by have:=hm.k1; omega)
  have M0:=zqh hm.is;rw [hC] at HF HS ⊢;clear hC hm;go_enter Tryz.func106,Tryz.ntmps106;go_upto_region 1 with fail
  generalize hw1 : World.alloc (World.alloc _ _) _ = w1;have kb : Below w.heap.size w w1:=by rw [← hw1]; exact al_two _ _ _
  have kx : Box w1 w.heap.size (.slice A n c) (.slice P K d) 27:=by rw [← hw1]; exact (box_two w _ _ _ _ _ _).1
  have kz : Box w1 (w.heap.size + 1) (.slice none 0 0) (.slice none 0 0) 27:=by rw [← hw1]; exact (box_two w _ _ _ _ _ _).2
  have KS : Hid (w1.heap.size = w.heap.size + 1 + 1):=by show _ = _; rw [← hw1]; simp
  clear hw1;have X1:=zqh kx;have Z1:=zqh kz;have B1:=zqh kb;obtain ⟨q0,q1,_,_⟩:=kx.use;clear kb kx kz;(go_wp2_with fail);refine (HF.out _ (M0.out.keep B1.out)).mono ?_;rintro e w2 ⟨rfl,bb⟩;have X2:=zqh (X1.out.keep bb);have Z2:=zqh (Z1.out.keep bb);have B2:=zqh (below_then B1.out bb);obtain ⟨Q0,Q1,_,_⟩:=X2.out.use;obtain ⟨z0,z1,z2,z3⟩:=Z2.out.use;clear HF bb q0 q1
  by_cases h0 : C = 0
  · subst h0
    clear z0 z1 z2 z3;(go_wp2_with fail);refine (HS.out _ (M0.out.keep B2.out)).mono ?_;rintro e w3 ⟨A2,n2,c2,P2,K2,d2,rfl,hr,bb⟩;have Z3:=zqh (Z2.out.keep bb);have B3:=zqh (below_then B2.out bb);have HR:=zqh (hr.le B2.out.size);obtain ⟨z0,z1,z2,z3⟩:=Z3.out.use;clear HS bb hr Q0 Q1;(go_wp2_with fail);refine bodyPost_ret (v:=.tuple #[.agg #[.slice A2 n2 c2,.slice P2 K2 d2],.int .i64 0]) ?_ rfl ?_
    · obtain ⟨r0,r1⟩:=Z3.out.got (.slice A2 n2 c2) (.slice P2 K2 d2)
      simp [results,Tryz.results106,go_sem,r0,r1]
    · exact ⟨_,_,_,_,_,_,rfl,fun _ => HR.out.row2 (by omega) Z3.out (row_put _ _ _ _),(B3.out.setCell (by simp) _).setCell (by simp) _⟩
  · have hC2 : (C != 0) = true:=by simpa using h0
    clear HS;(go_wp2_with fail);refine bodyPost_ret (v:=.tuple #[.agg #[.slice A n c,.slice P K d],.int .i64 C]) ?_ rfl ?_
    · obtain ⟨r0,r1⟩:=Z2.out.got (.slice A n c) (.slice P K d)
      simp [results,Tryz.results106,go_sem,r0,r1]
    · exact ⟨_,_,_,_,_,_,rfl,fun hz => absurd hz h0,(B2.out.setCell (by simp) _).setCell (by simp) _⟩
theorem bothStored_any (A P : Option Addr) (n c K d : Nat) (m : PM) (a b b2 : Int) (w : World) (hm : MemIn w A P n c K d m) : Calls Tryz.prog 113 #[.agg #[.slice A n c,.slice P K d],.int .i64 a,.int .i64 b,.int .i64 b2] w (MemOut P K (storeF (storeF m a b) (wrap64 (a + 8)) b2) (twoC n a) w):=by
  obtain ⟨C,hC⟩ : ∃ C,cellC n a = C:=⟨_,rfl⟩;obtain ⟨C2,hC2⟩ : ∃ C,cellC n (wrap64 (a + 8)) = C:=⟨_,rfl⟩;obtain ⟨D,hD⟩ : ∃ D,twoC n a = D:=⟨_,rfl⟩;have hDD : D = if C = 0 then C2 else C:=by rw [← hD]; unfold twoC; rw [hC,hC2]
  have hn:=hm.is.len1;have hk:=hm.is.len2;have HS:=zqh fun w h => store_atp A P n c K d m a b w (zqh h) (by have:=hm.n2; omega) (by have:=hm.k1; omega)
  have HT : Hid (∀ w A2 P2 n2 c2 K2 d2,IsMem w (.agg #[.slice A2 n2 c2,.slice P2 K2 d2]) (storeF m a b) → Calls Tryz.prog 104 #[.agg #[.slice A2 n2 c2,.slice P2 K2 d2],.int .i64 (wrap64 (a + 8)),.int .i64 b2] w fun e w' => ∃ A' L' c' P' K' d',e = .returned (.tuple #[.agg #[.slice A' L' c',.slice P' K' d'],.int .i64 C2]) ∧ MemP P2 K2 w.heap.size w' (.agg #[.slice A' L' c',.slice P' K' d']) (storeF (storeF m a b) (wrap64 (a + 8)) b2) ∧ Below w.heap.size w w'):=by
    intro w A2 P2 n2 c2 K2 d2 h;have e1:=h.len1;have e2:=h.len2;have:=store_lens m a b;have hn2 : n2 = n:=by omega
    subst hn2;have hh:=hm.n2;have hk:=hm.k1;rw [← hC2];exact store_atp A2 P2 n2 c2 K2 d2 (storeF m a b) (wrap64 (a + 8)) b2 w (zqh h) (by omega) (by omega)
  have M0:=zqh hm.is;rw [hC] at HS;rw [hD];clear hC hC2 hD hm hn hk
  by_cases h0 : C = 0
  · obtain rfl : D = C2:=by rw [hDD,if_pos h0]
    subst h0;clear hDD;go_enter Tryz.func113,Tryz.ntmps113;go_upto_region 1 with fail
    generalize hw1 : World.alloc (World.alloc _ _) _ = w1;have kb : Below w.heap.size w w1:=by rw [← hw1]; exact al_two _ _ _
    have kx : Box w1 w.heap.size (.slice A n c) (.slice P K d) 27:=by rw [← hw1]; exact (box_two w _ _ _ _ _ _).1
    have kz : Box w1 (w.heap.size + 1) (.slice none 0 0) (.slice none 0 0) 27:=by rw [← hw1]; exact (box_two w _ _ _ _ _ _).2
    have KS : Hid (w1.heap.size = w.heap.size + 1 + 1):=by show _ = _; rw [← hw1]; simp
    clear hw1;have X1:=zqh kx;have Z1:=zqh kz;have B1:=zqh kb;obtain ⟨q0,q1,_,_⟩:=kx.use;clear kb kx kz;(go_wp2_with fail);refine (HS.out _ (M0.out.keep B1.out)).mono ?_;rintro e w2 ⟨A2,n2,c2,P2,K2,d2,rfl,hr,bb⟩;have X2:=zqh (X1.out.keep bb);have Z2:=zqh (Z1.out.keep bb);have B2:=zqh (below_then B1.out bb);have HR:=zqh (hr.le B1.out.size);obtain ⟨Q0,Q1,Q2,Q3⟩:=X2.out.use;clear HS bb hr q0 q1;go_upto_region 2 with fail
    generalize hV : World.setCell _ _ _ = V;have XV : Hid (Box V w.heap.size (.slice A2 n2 c2) (.slice P2 K2 d2) 27):=by show Box _ _ _ _ _; rw [← hV]; exact X2.out.put _ _
    have ZV : Hid (Box V (w.heap.size + 1) (.slice none 0 0) (.slice none 0 0) 27):=by show Box _ _ _ _ _; rw [← hV]; exact Z2.out.row (row_put _ _ _ _) (by omega)
    have BV : Hid (Below w.heap.size w V):=by show Below _ _ _; rw [← hV]; exact (B2.out.setCell (Nat.le_refl _) _).setCell (Nat.le_refl _) _
    have MV : Hid (MemP P K w.heap.size V (.agg #[.slice A2 n2 c2,.slice P2 K2 d2]) (storeF m a b)):=by show MemP _ _ _ _ _ _; rw [← hV]; exact HR.out.row2 (Nat.le_refl _) X2.out (row_put _ _ _ _)
    clear hV Q0 Q1 Q2 Q3 HR B2 X2 Z2;obtain ⟨Q0,Q1,_,_⟩:=XV.out.use;(go_wp2_with fail);refine (HT.out _ _ _ _ _ _ _ MV.out.1).mono ?_;rintro e w3 ⟨A3,n3,c3,P3,K3,d3,rfl,hr,bb⟩;have Z3:=zqh (ZV.out.keep bb);have B3:=zqh (below_then BV.out bb);have HR : Hid (MemP P K w.heap.size w3 (.agg #[.slice A3 n3 c3,.slice P3 K3 d3]) (storeF (storeF m a b) (wrap64 (a + 8)) b2)):=⟨hr.1,fun x P' K' d' e => ((hr.2 x P' K' d' e).le BV.out.size).trans (MV.out.2 _ _ _ _ rfl)⟩;obtain ⟨z0,z1,z2,z3⟩:=Z3.out.use;clear HT bb hr Q0 Q1;(go_wp2_with fail);refine bodyPost_ret (v:=.tuple #[.agg #[.slice A3 n3 c3,.slice P3 K3 d3],.int .i64 D]) ?_ rfl ?_
    · obtain ⟨r0,r1⟩:=Z3.out.got (.slice A3 n3 c3) (.slice P3 K3 d3)
      simp [results,Tryz.results113,go_sem,r0,r1]
    · exact ⟨_,_,_,_,_,_,rfl,fun _ => HR.out.row2 (by omega) Z3.out (row_put _ _ _ _),(B3.out.setCell (by simp) _).setCell (by simp) _⟩
  · rw [hDD,if_neg h0]
    clear hDD D;go_enter Tryz.func113,Tryz.ntmps113;go_upto_region 1 with fail
    generalize hw1 : World.alloc (World.alloc _ _) _ = w1;have kb : Below w.heap.size w w1:=by rw [← hw1]; exact al_two _ _ _
    have kx : Box w1 w.heap.size (.slice A n c) (.slice P K d) 27:=by rw [← hw1]; exact (box_two w _ _ _ _ _ _).1
    have kz : Box w1 (w.heap.size + 1) (.slice none 0 0) (.slice none 0 0) 27:=by rw [← hw1]; exact (box_two w _ _ _ _ _ _).2
    have KS : Hid (w1.heap.size = w.heap.size + 1 + 1):=by show _ = _; rw [← hw1]; simp
    clear hw1;have X1:=zqh kx;have Z1:=zqh kz;have B1:=zqh kb;obtain ⟨q0,q1,_,_⟩:=kx.use;clear kb kx kz;(go_wp2_with fail);refine (HS.out _ (M0.out.keep B1.out)).mono ?_;rintro e w2 ⟨A2,n2,c2,P2,K2,d2,rfl,hr,bb⟩;have X2:=zqh (X1.out.keep bb);have Z2:=zqh (Z1.out.keep bb);have B2:=zqh (below_then B1.out bb);have HR:=zqh (hr.le B1.out.size);obtain ⟨Q0,Q1,Q2,Q3⟩:=X2.out.use;clear HS bb hr q0 q1;go_upto_region 2 with fail
    generalize hV : World.setCell _ _ _ = V;have XV : Hid (Box V w.heap.size (.slice A2 n2 c2) (.slice P2 K2 d2) 27):=by show Box _ _ _ _ _; rw [← hV]; exact X2.out.put _ _
    have ZV : Hid (Box V (w.heap.size + 1) (.slice none 0 0) (.slice none 0 0) 27):=by show Box _ _ _ _ _; rw [← hV]; exact Z2.out.row (row_put _ _ _ _) (by omega)
    have BV : Hid (Below w.heap.size w V):=by show Below _ _ _; rw [← hV]; exact (B2.out.setCell (Nat.le_refl _) _).setCell (Nat.le_refl _) _
    have MV : Hid (MemP P K w.heap.size V (.agg #[.slice A2 n2 c2,.slice P2 K2 d2]) (storeF m a b)):=by show MemP _ _ _ _ _ _; rw [← hV]; exact HR.out.row2 (Nat.le_refl _) X2.out (row_put _ _ _ _)
    clear hV Q0 Q1 Q2 Q3 HR B2 X2 Z2;obtain ⟨Q0,Q1,_,_⟩:=XV.out.use;have hC2 : (C != 0) = true:=by simpa using h0
    obtain ⟨z0,z1,z2,z3⟩:=ZV.out.use;clear HT;(go_wp2_with fail);refine bodyPost_ret (v:=.tuple #[.agg #[.slice A2 n2 c2,.slice P2 K2 d2],.int .i64 C]) ?_ rfl ?_
    · obtain ⟨r0,r1⟩:=ZV.out.got (.slice A2 n2 c2) (.slice P2 K2 d2)
      simp [results,Tryz.results113,go_sem,r0,r1]
    · exact ⟨_,_,_,_,_,_,rfl,fun hz => absurd hz h0,(BV.out.setCell (by simp) _).setCell (by simp) _⟩
theorem bothFetched_any (A P : Option Addr) (n c K d : Nat) (m : PM) (a : Int) (w : World) (hm : MemIn w A P n c K d m) : Calls Tryz.prog 111 #[.agg #[.slice A n c,.slice P K d],.int .i64 a] w (CellOut [fetchF m (wrap64 (a + 8)),fetchF m a] (twoC n a) w):=by
  obtain ⟨C,hC⟩ : ∃ C,cellC n a = C:=⟨_,rfl⟩;obtain ⟨C2,hC2⟩ : ∃ C,cellC n (wrap64 (a + 8)) = C:=⟨_,rfl⟩;obtain ⟨D,hD⟩ : ∃ D,twoC n a = D:=⟨_,rfl⟩;have hDD : D = if C = 0 then C2 else C:=by rw [← hD]; unfold twoC; rw [hC,hC2]
  have HF:=zqh fun w h => fetch_at A P n c K d m a w (zqh h) (by have:=hm.n2; omega)
  have HG:=zqh fun w h => fetch_at A P n c K d m (wrap64 (a + 8)) w (zqh h) (by have:=hm.n2; omega)
  have M0:=zqh hm.is;rw [hC] at HF;rw [hC2] at HG;rw [hD];generalize fetchF m a = x1 at HF ⊢;generalize fetchF m (wrap64 (a + 8)) = x2 at HG ⊢;clear hC hC2 hD hm
  by_cases h0 : C = 0
  · obtain rfl : D = C2:=by rw [hDD,if_pos h0]
    subst h0;clear hDD;go_enter Tryz.func111,Tryz.ntmps111;go_upto_region 1 with fail
    generalize hw1 : World.alloc _ _ = w1;have kb : Below w.heap.size w w1:=by rw [← hw1]; exact al_one _ _
    have X1 : Hid (Box w1 w.heap.size (.slice A n c) (.slice P K d) 27):=by show Box _ _ _ _ _; rw [← hw1]; exact box_new _ _ _ _
    obtain ⟨q0,q1,_,_⟩:=X1.out.use;clear hw1;have B1:=zqh kb;clear kb;(go_wp2_with fail);refine (HF.out _ (M0.out.keep B1.out)).mono ?_;rintro e w2 ⟨rfl,bb⟩;have X2:=zqh (X1.out.keep bb);have B2:=zqh (below_then B1.out bb);obtain ⟨Q0,Q1,_,_⟩:=X2.out.use;clear HF bb q0 q1;(go_wp2_with fail);refine (HG.out _ (M0.out.keep B2.out)).mono ?_;rintro e w3 ⟨rfl,bb⟩;have B3:=zqh (below_then B2.out bb);clear HG bb Q0 Q1;(go_wp2_with fail);go_ret2;exact ⟨_,_,_,rfl,fun _ => (rowN_two _ _ _).le B3.out.size,below_then B3.out (al_one _ _)⟩
  · rw [hDD,if_neg h0]
    clear hDD HG D;go_enter Tryz.func111,Tryz.ntmps111;go_upto_region 1 with fail
    generalize hw1 : World.alloc _ _ = w1;have kb : Below w.heap.size w w1:=by rw [← hw1]; exact al_one _ _
    have X1 : Hid (Box w1 w.heap.size (.slice A n c) (.slice P K d) 27):=by show Box _ _ _ _ _; rw [← hw1]; exact box_new _ _ _ _
    obtain ⟨q0,q1,_,_⟩:=X1.out.use;clear hw1;have B1:=zqh kb;clear kb;(go_wp2_with fail);refine (HF.out _ (M0.out.keep B1.out)).mono ?_;rintro e w2 ⟨rfl,bb⟩;have X2:=zqh (X1.out.keep bb);have B2:=zqh (below_then B1.out bb);obtain ⟨Q0,Q1,_,_⟩:=X2.out.use;clear HF bb q0 q1;have hC2 : (C != 0) = true:=by simpa using h0
    (go_wp2_with fail);go_ret2;exact ⟨none,0,0,rfl,fun hz => absurd hz h0,B2.out⟩
theorem counted_any (A P : Option Addr) (n c K d : Nat) (m : PM) (a : Int) (w : World) (hm : MemIn w A P n c K d m) : Calls Tryz.prog 118 #[.agg #[.slice A n c,.slice P K d],.int .i64 a] w (CellOut [wrap64 (a + 1),byteF m a] (codeF (okB n a 1)) w):=by
  have HF:=zqh fun w h => fetchByte_at A P n c K d m a w (zqh h) (by have:=hm.n2; omega)
  have M0:=zqh hm.is;generalize byteF m a = x1 at HF ⊢;generalize codeF (okB n a 1) = C at HF ⊢;clear hm;go_enter Tryz.func118,Tryz.ntmps118;go_upto_region 1 with fail
  generalize hw1 : World.alloc _ _ = w1;have kb : Below w.heap.size w w1:=by rw [← hw1]; exact al_one _ _
  have X1 : Hid (Box w1 w.heap.size (.slice A n c) (.slice P K d) 27):=by show Box _ _ _ _ _; rw [← hw1]; exact box_new _ _ _ _
  obtain ⟨q0,q1,_,_⟩:=X1.out.use;clear hw1;have B1:=zqh kb;clear kb;(go_wp2_with fail);refine (HF.out _ (M0.out.keep B1.out)).mono ?_;rintro e w2 ⟨rfl,bb⟩;have B2:=zqh (below_then B1.out bb);clear HF bb q0 q1;(go_wp2_with fail);go_ret2;exact ⟨_,_,_,rfl,fun _ => (rowN_two _ _ _).le B2.out.size,below_then B2.out (al_one _ _)⟩
end Go.Proofs.YtlgnijhemfkflaaGreatDoor
