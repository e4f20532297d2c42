/- Part 26. -/
import Derived.Deep.RegionHeld
import Derived.StillTail
import Derived.Test.YtcmldhjicjmmgaaGreatDoorXkAY
set_option linter.unusedVariables false
set_option linter.unusedSimpArgs false
set_option maxRecDepth 100000
set_option maxHeartbeats 4000000

namespace Go.Proofs.YtcmldhjicjmmgaaGreatDoor
open Go.RowKit


theorem two_rns (w : World) (r s : RnK) : Below w.heap.size w ((w.alloc (.cells (rnC r) 55)).alloc (.cells (rnC s) 55)) ∧ RBox ((w.alloc (.cells (rnC r) 55)).alloc (.cells (rnC s) 55)) w.heap.size r ∧ RBox ((w.alloc (.cells (rnC r) 55)).alloc (.cells (rnC s) 55)) (w.heap.size + 1) s :=
  ⟨al_two _ _ _,(rbox_new w r).keep (al_one _ _),by have:=rbox_new (w.alloc (.cells (rnC r) 55)) s; rwa [show (w.alloc (.cells (rnC r) 55)).heap.size = w.heap.size + 1 from by simp] at this⟩
theorem rsame_yes (S : RS) (r s : RnK) (w : World) (hr : RIs w r S) (hs : RIs w s S) (hn : S.L.d.length ≤ 60000 ∧ S.L.r.length ≤ 60000 ∧ S.L.f.length ≤ 60000 ∧ S.L.dict.length ≤ 60000 ∧ S.L.e.length ≤ 60000 ∧ S.L.h.length ≤ 60000) :
    Calls Tryz.prog 18 #[rnV r,rnV s] w fun e w' => e = .returned (.bool true) ∧ Below w.heap.size w w':=by
  have h0:=zqh hr;have h1:=zqh hs;have N1 : Hid (r.v.dn ≤ 65536 ∧ r.v.rn ≤ 65536 ∧ r.v.fn ≤ 65536 ∧ r.v.wn ≤ 65536 ∧ r.v.en ≤ 65536 ∧ r.v.hn ≤ 65536):=by
    have q1:=hr.vm.d.1; have q2:=hr.vm.r.1; have q3:=hr.vm.f.len; have q4:=hr.vm.dict.len; have q5:=hr.vm.e.len; have q6:=hr.vm.h.len;show _ ∧ _;omega
  have HE : Hid (∀ u,Below w.heap.size w u → Calls Tryz.prog 31 #[vmV r.v,vmV s.v] u fun e w' => e = .returned (.bool true) ∧ Below u.heap.size u w'):=fun u bu => by
    have:=vsame_any r.v S.L s.v S.L u N1 (hr.vm.keep bu) (hs.vm.keep bu)
    rwa [same_self (hr.sc.trans hs.sc.symm)] at this
  clear hr hs hn;go_enter Tryz.func18,Tryz.ntmps18;go_upto_region 1 with fail
  generalize hw1 : World.alloc (World.alloc _ _) _ = w1;obtain ⟨kb,kx,ky⟩:=two_rns w r s;have B1 : Hid (Below w.heap.size w w1):=by show Below _ _ _; rw [← hw1]; exact kb
  have X1 : Hid (RBox w1 w.heap.size r):=by show RBox _ _ _; rw [← hw1]; exact kx
  have Y1 : Hid (RBox w1 (w.heap.size + 1) s):=by show RBox _ _ _; rw [← hw1]; exact ky
  clear hw1 kb kx ky;have x23:=X1.out.c23;have x24:=X1.out.c24;have x25:=X1.out.c25;have x26:=X1.out.c26;have y23:=Y1.out.c23;have y24:=Y1.out.c24;have y25:=Y1.out.c25;have y26:=Y1.out.c26;rw [h0.out.ip] at x23;rw [h0.out.wv] at x24;rw [h0.out.d] at x25;rw [h0.out.fu] at x26;rw [h1.out.ip] at y23;rw [h1.out.wv] at y24;rw [h1.out.d] at y25;rw [h1.out.fu] at y26;(go_wp2_with (first | (refine wpList_rbvload (by rfl) _ rfl w.heap.size r rfl X1.out ?_) | (refine wpList_rbvload (by rfl) _ rfl (w.heap.size + 1) s rfl Y1.out ?_)));refine (HE.out _ B1.out).mono ?_;rintro e w2 ⟨rfl,bb⟩;(go_wp2_with fail);go_ret;exact ⟨rfl,below_then B1.out bb⟩
theorem rsame_no (S T : RS) (r s : RnK) (w : World) (hr : RIs w r S) (hs : RIs w s T) (hn : (S.ip == T.ip) = false) :
    Calls Tryz.prog 18 #[rnV r,rnV s] w fun e w' => e = .returned (.bool false) ∧ Below w.heap.size w w':=by
  have h0:=zqh hr.ip;have h1:=zqh hs.ip;clear hr hs;go_enter Tryz.func18,Tryz.ntmps18;go_upto_region 1 with fail
  generalize hw1 : World.alloc (World.alloc _ _) _ = w1;obtain ⟨kb,kx,ky⟩:=two_rns w r s;have B1 : Hid (Below w.heap.size w w1):=by show Below _ _ _; rw [← hw1]; exact kb
  have X1 : Hid (RBox w1 w.heap.size r):=by show RBox _ _ _; rw [← hw1]; exact kx
  have Y1 : Hid (RBox w1 (w.heap.size + 1) s):=by show RBox _ _ _; rw [← hw1]; exact ky
  clear hw1 kb kx ky;have x23:=X1.out.c23;have y23:=Y1.out.c23;rw [h0.out] at x23;rw [h1.out] at y23;go_wp2;go_ret;exact ⟨rfl,B1.out⟩
open Go.RowKit Go


section
variable {P : Program} {ops : Array Oper} {Q : Exit → Act → World → Prop} {md : Region.Mode} {s : Nat} {T : World → Prop}
def wpAnyG (P : Program) (md : Region.Mode) (ops : Array Oper) (Q : Exit → Act → World → Prop) (s : Nat) (T : World → Prop) : Nat → Array Bool → Act → World → Prop
  | 0,listed,a,w => Region.ready md ops listed = [] ∧ Q .normal a w
  | fuel + 1,listed,a,w =>
    (Region.ready md ops listed = [] → Q .normal a w) ∧
    ∀ i ∈ Region.ready md ops listed,wpOp P ops Q i (fun a' w' => ((listed.setIfInBounds i true).getD s true = false → T w') ∧ wpAnyG P md ops Q s T fuel (listed.setIfInBounds i true) a' w') a w
theorem wpAny_of_G : ∀ (fuel : Nat) (listed : Array Bool) (a : Act) (w : World),wpAnyG P md ops Q s T fuel listed a w → wpAny P md ops Q fuel listed a w
  | 0,_,_,_,h => h
  | fuel + 1,_,_,_,h => ⟨h.1,fun i hi => wpOp_mono (fun a' w' h' => wpAny_of_G fuel _ a' w' h'.2) (h.2 i hi)⟩
theorem wpAnyG_first {i : Nat} {oi : Oper} {v : Value} (hi : ops[i]? = some oi) (hsel : ∀ (j : Nat) (o : Oper) cs b,ops[j]? = some o → o.op ≠ .select cs b)
    (hQ : ∀ c a w,Q (.panic c) (a.put oi.dst v) w → Q (.panic c) a w) (hsi : s ≠ i) (hws : ∃ os,ops[s]? = some os ∧ ∃ e ∈ os.after,Region.binds md e = true ∧ e.on = i) :
    ∀ (fuel : Nat) (listed : Array Bool) (a : Act) (w : World),
      (∀ j oj,ops[j]? = some oj → j ≠ i → listed.getD j true = false → (∀ e ∈ oj.after,Region.binds md e = true → e.on ≠ i) → oi.apart ops oj = true) →
      i ∈ Region.ready md ops listed → listed.getD s true = false → YieldsIf P ops T oi v a → T w →
      wpAnyG P md ops Q s T fuel (listed.setIfInBounds i true) (a.put oi.dst v) w → wpAnyG P md ops Q s T (fuel + 1) listed a w:=by
  intro fuel
  induction fuel with
  | zero =>
    intro listed a w _ hr hl hy hS H;refine ⟨fun h => (by rw [h] at hr; cases hr),fun j hj => ?_⟩
    by_cases hji : j = i
    · subst hji; exact hy.wpOp hi hS ⟨fun _ => hS,H⟩
    · have:=ready_mono hj hji
      rw [H.1] at this;cases this
  | succ fuel ih =>
    intro listed a w hfree hr hl hy hS H;refine ⟨fun h => (by rw [h] at hr; cases hr),fun j hj => ?_⟩
    by_cases hji : j = i
    · subst hji; exact hy.wpOp hi hS ⟨fun _ => hS,H⟩
    · have h1:=H.2 j (ready_mono hj hji)
      obtain ⟨hjun,oj,hoj,hall⟩:=mem_ready.1 hj;have hnot : ∀ e ∈ oj.after,Region.binds md e = true → e.on ≠ i:=fun e he hb heq => by
        have h1:=hall e he hb;have h0:=(mem_ready.1 hr).1;rw [heq] at h1
        rcases Nat.lt_or_ge i listed.size with h' | h'
        · simp [h'] at h0 h1; rw [h0] at h1; cases h1
        · simp [Array.getElem?_eq_none h'] at h1
      have hjs : j ≠ s:=fun e => by
        subst e;obtain ⟨os,ho,x,hx,hb,hon⟩:=hws;rw [hoj] at ho;injection ho with ho
        subst ho;exact hnot x hx hb hon
      have h2:=wpOp_putIf hoj (hfree j oj hoj hji hjun hnot) (fun cs b => hsel i oi cs b hi) (fun cs b => hsel j oj cs b hoj) hQ hy h1;have hfree' : ∀ k ok,ops[k]? = some ok → k ≠ i → (listed.setIfInBounds j true).getD k true = false →
          (∀ e ∈ ok.after,Region.binds md e = true → e.on ≠ i) → oi.apart ops ok = true:=fun k ok hk hki hun hno => by
        refine hfree k ok hk hki ?_ hno
        by_cases hjk : j = k
        · subst hjk; exact hjun
        · rw [getD_set_ne true hjk] at hun; exact hun
      have hl1 : (listed.setIfInBounds j true).getD s true = false:=by rw [getD_set_ne true hjs]; exact hl
      have hl2 : ((listed.setIfInBounds i true).setIfInBounds j true).getD s true = false:=by rw [getD_set_ne true hjs,getD_set_ne true (Ne.symm hsi)]; exact hl
      refine wpOp_mono (fun a' w' h3 => ⟨fun _ => h3.2.1 hl2,ih (listed.setIfInBounds j true) a' w' hfree' (ready_mono hr (Ne.symm hji)) hl1 h3.1 (h3.2.1 hl2) ?_⟩) h2;rw [Array.setIfInBounds_comm _ _ hji];exact h3.2.2
theorem wpAnyG_take {i : Nat} {oi : Oper} {v : Value} {fuel : Nat} {listed : Array Bool} {a : Act} {w : World} (hi : ops[i]? = some oi)
    (hs : Region.noSelect ops = true) (hf : Region.free md ops listed i = true) (hr : (Region.ready md ops listed).contains i = true) (hws : (s != i && Region.waitsFor md ops s i && !listed.getD s true) = true)
    (hQ : ∀ c a w,Q (.panic c) (a.put oi.dst v) w → Q (.panic c) a w) (hy : YieldsIf P ops T oi v a) (hS : T w)
    (h : wpAnyG P md ops Q s T fuel (listed.setIfInBounds i true) (a.put oi.dst v) w) : wpAnyG P md ops Q s T (fuel + 1) listed a w:=by
  simp only [Bool.and_eq_true,bne_iff_ne,ne_eq,Bool.not_eq_true',Bool.not_eq_eq_eq_not,Bool.not_true] at hws;exact wpAnyG_first hi (Region.noSelect_spec hs) hQ hws.1.1 (Region.waitsFor_spec hws.1.2) fuel listed a w (Region.free_spec hi hf) (by simpa using hr) hws.2 hy hS h
def AllReadyG (P : Program) (md : Region.Mode) (ops : Array Oper) (Q : Exit → Act → World → Prop) (s : Nat) (T : World → Prop) (fuel : Nat) (listed : Array Bool) (a : Act) (w : World) (rs : List Nat) : Prop :=
  ∀ i ∈ rs,wpOp P ops Q i (fun a' w' => ((listed.setIfInBounds i true).getD s true = false → T w') ∧ wpAnyG P md ops Q s T fuel (listed.setIfInBounds i true) a' w') a w
theorem AllReadyG.nil {fuel : Nat} {listed : Array Bool} {a : Act} {w : World} : AllReadyG P md ops Q s T fuel listed a w []:=fun _ h => by cases h
theorem AllReadyG.cons {fuel : Nat} {listed : Array Bool} {a : Act} {w : World} {i : Nat} {o : Oper} {rs : List Nat} (ho : ops[i]? = some o)
    (h : ∀ K' : Act → World → Prop,Shut (∀ a w,((listed.setIfInBounds i true).getD s true = false → T w) → wpAnyG P md ops Q s T fuel (listed.setIfInBounds i true) a w → K' a w) → if Region.wanted o (yielded ops a.tmps) = true then Oper.wp P o a w K' Q else K' (a.put o.dst undef) w)
    (hs : AllReadyG P md ops Q s T fuel listed a w rs) : AllReadyG P md ops Q s T fuel listed a w (i :: rs):=fun j hj => by
  rcases List.mem_cons.1 hj with rfl | hj
  · exact wpOp_step ho (fun K' hK => h K' (fun a w hS hW => hK a w ⟨hS,hW⟩))
  · exact hs j hj
theorem wpAnyG_ready {rs : List Nat} {fuel : Nat} {listed : Array Bool} {a : Act} {w : World} (hr : Region.ready md ops listed = rs) (hne : rs ≠ [])
    (h : AllReadyG P md ops Q s T fuel listed a w rs) : wpAnyG P md ops Q s T (fuel + 1) listed a w:=⟨fun h0 => absurd (hr ▸ h0) hne,hr ▸ h⟩
theorem wpAnyG_done {listed : Array Bool} {a : Act} {w : World} (hr : Region.ready md ops listed = []) (h : Q .normal a w) : ∀ fuel,wpAnyG P md ops Q s T fuel listed a w
  | 0 => ⟨hr,h⟩
  | _ + 1 => ⟨fun _ => h,by rw [hr]; simp⟩
theorem wp_region_G {id : Nat} {a : Act} {w : World} (s : Nat) (T : World → Prop) (hm : P.follows .mixedOrders = true)
    (h : wpAnyG P .any ops Q s T ops.size (Array.replicate ops.size false) a w.drew) : (Code.region id ops true).wp P Q a w :=
  wp_region_any hm (wpAny_of_G _ _ _ _ h)
end
open Go.RowKit


theorem row_litI (w : World) (l : List Int) (h : l.length ≤ 65536) : Row (w.alloc (.cells (ints l).toArray 3)) (some ⟨w.heap.size,0,none⟩) l.length l.length l:=⟨rfl,Nat.le_refl _,by unfold maxLen; omega,lies_block (heap_alloc_new w _)⟩
theorem xt_lit (m : Nat) (hm : m < 130) (s : ByteArray) (hs : s = strB (nmP m)) (v : Int) (hv : 32 + 8 * (m : Int) = v) (w : World) : Calls Tryz.prog 9 #[.string s] w fun e w' => e = .returned (.int .i64 v) ∧ Below w.heap.size w w':=by
  have:=xt_any m hm s hs w
  rwa [hv] at this
theorem run_st {n : Nat} {a : Addr} {M : PM} {d D R : List Int} {ip x fu fu' c : Int} (HR : Runs n (stW a M d [] 16 x fu) (st a M D R ip fu') c) {k : VmK} (w : World) (hf : 0 ≤ fu) (h : IsVm w k (stL9 M d [])) (s : Sc k freK) (g : Glob a w) :
    Calls Tryz.prog 11 #[vmV k,.int .i64 x,.int .i64 fu] w fun e w' => ∃ j,e = .returned (.tuple #[vmV j,.int .i64 fu',.int .i64 c]) ∧ IsVm w' j (stL9 M D []) ∧ Sc j freK ∧ Below w.heap.size w w' :=
  run_any n w hf h s g HR
theorem begin_st {w : World} {k : VmK} {M : PM} {d : List Int} (h : IsVm w k (stL9 M d [])) (s : Sc k freK) (x fu : Int) (a : Addr) : RIs w (beginK k x fu) (stW a M d [] 16 x fu):=⟨h.bare,s.bare,rfl,rfl,rfl,rfl,fun _ q => q.elim,fun _ q => q.elim⟩
theorem same_ll (A B : Option Addr) (n c m d : Nat) (l : List Int) (w : World) (h : Row w A n c l) (h' : Row w B m d l) (hn : l.length ≤ 60000) :
    Calls Tryz.prog 12 #[.slice A n c,.slice B m d] w fun e w' => e = .returned (.bool true) ∧ Below w.heap.size w w':=by
  have:=same_atS A B n c m d l l w (by have:=h.1; omega) (by have:=h'.1; omega) (zqh h) (zqh h')
  rwa [show sameB l l = true from by simp [sameB]] at this
theorem len_st {a : Addr} {M : PM} {x fu : Int} : (stW a M [] [] 16 x fu).L.d.length ≤ 60000 ∧ (stW a M [] [] 16 x fu).L.r.length ≤ 60000 ∧ (stW a M [] [] 16 x fu).L.f.length ≤ 60000 ∧ (stW a M [] [] 16 x fu).L.dict.length ≤ 60000 ∧ (stW a M [] [] 16 x fu).L.e.length ≤ 60000 ∧ (stW a M [] [] 16 x fu).L.h.length ≤ 60000 :=
  ⟨Nat.zero_le _,Nat.zero_le _,Nat.zero_le _,(by show (newW 167).length ≤ _; decide +kernel),Nat.zero_le _,Nat.zero_le _⟩
theorem VBox.c8 {w : World} {b : Nat} {k : VmK} (h : VBox w b k) : w.cell? ⟨b,8,none⟩ = some (.slice k.dA k.dn k.dc):=h.use.2.2.2.2.2.2.2.2.1
theorem shown_inn (a : Addr) (w : World) (g : Glob a w) : Calls Tryz.prog 7 #[] w fun e w' => e = .returned (.bool true) ∧ Below w.heap.size w w':=by
  have G0:=zqh (g);have B0:=zqh (Below.refl w.heap.size w);clear g;go_enter Tryz.func7,Tryz.ntmps7;(go_wp2_with fail);refine (fresh_any _).mono ?_;rintro e w1 ⟨k,rfl,hv,hs,bb⟩;have G1:=zqh (G0.out.keep bb);have B1:=zqh (below_then B0.out bb);clear G0 B0;have V1:=zqh (hv);have S0:=zqh hs;clear bb hv hs;have FX:=zqh (free_of V1.out (Nat.le_refl w1.heap.size));have LX : Hid (3 ≤ w1.heap.size):=G1.out.lo;have NX : Hid (w.heap.size ≤ w1.heap.size):=B1.out.size;go_upto_region 2 with (refine wpList_vstore (by rfl) _ _ rfl _ vm0 (k) rfl rfl (vbox_zero _) ?_)
  generalize hw : World.setRow _ _ _ = w2;have bb : Below w1.heap.size w1 w2:=by rw [← hw]; exact below_setRow (al_one _ _) (Nat.le_refl _) _
  have hx : VBox w2 w1.heap.size (k):=by rw [← hw]; exact vrow (vbox_zero _) _
  clear hw;have G2:=zqh (G1.out.keep bb);have V2:=zqh (V1.out.keep bb);have B2:=zqh (below_then B1.out bb);clear G1 V1 B1;have X2:=zqh (hx);clear bb hx;go_upto_region 2 with (first | (refine wpList_vload (by rfl) _ rfl (w1.heap.size) (k) rfl X2.out ?_))
  refine wp_region_G 7 (fun u => VBox u (w1.heap.size) (k)) (by kernel_rfl) ?_;have bb:=drew_bel8 w2;have G3:=zqh (G2.out.keep bb);have V3:=zqh (V2.out.keep bb);have X3:=zqh (X2.out.keep bb);have B3:=zqh (below_then B2.out bb);clear G2 V2 X2 B2;clear bb;refine wpAnyG_take (i:=0) (oi:=_) (v:=vmV (k)) rfl (by kernel_rfl) (by kernel_rfl) (by kernel_rfl) (by kernel_rfl) (fun _ _ _ h => h) (Or.inl ⟨by kernel_rfl,fun u hu => exec_vl _ rfl (w1.heap.size) (k) rfl hu⟩) X3.out ?_;(try simp only [zq,Act.put]);refine wpAnyG_ready (rs:=[1]) (by kernel_rfl) (by simp) ?_;refine AllReadyG.cons (o:=_) rfl (fun K hK => ?_) AllReadyG.nil;go_simp;refine (xt_lit 1 (by decide) _ (by kernel_rfl) 40 (by decide) _).mono ?_;rintro e w4 ⟨rfl,bb⟩;have G4:=zqh (G3.out.keep bb);have V4:=zqh (V3.out.keep bb);have X4:=zqh (X3.out.keep bb);have B4:=zqh (below_then B3.out bb);clear G3 V3 X3 B3;clear bb;(go_wp2_with fail);refine hK.out _ _ (fun _ => X4.out) ?_;clear hK K;(try simp only [zq,Act.put]);refine wpAnyG_ready (rs:=[2]) (by kernel_rfl) (by simp) ?_;refine AllReadyG.cons (o:=_) rfl (fun K hK => ?_) AllReadyG.nil;go_simp;refine (xt_lit 23 (by decide) _ (by kernel_rfl) 216 (by decide) _).mono ?_;rintro e w5 ⟨rfl,bb⟩;have G5:=zqh (G4.out.keep bb);have V5:=zqh (V4.out.keep bb);have X5:=zqh (X4.out.keep bb);have B5:=zqh (below_then B4.out bb);clear G4 V4 X4 B4;clear bb;(go_wp2_with fail);refine hK.out _ _ (fun _ => X5.out) ?_
  clear hK K;(try simp only [zq,Act.put]);refine wpAnyG_ready (rs:=[3]) (by kernel_rfl) (by simp) ?_;refine AllReadyG.cons (o:=_) rfl (fun K hK => ?_) AllReadyG.nil;go_simp;refine (xt_lit 41 (by decide) _ (by kernel_rfl) 360 (by decide) _).mono ?_;rintro e w6 ⟨rfl,bb⟩;have G6:=zqh (G5.out.keep bb);have V6:=zqh (V5.out.keep bb);have X6:=zqh (X5.out.keep bb);have B6:=zqh (below_then B5.out bb);clear G5 V5 X5 B5;clear bb;(go_wp2_with fail);refine hK.out _ _ (fun _ => X6.out) ?_;clear hK K;(try simp only [zq,Act.put]);refine wpAnyG_ready (rs:=[4]) (by kernel_rfl) (by simp) ?_;refine AllReadyG.cons (o:=_) rfl (fun K hK => ?_) AllReadyG.nil;go_simp;refine (xt_lit 0 (by decide) _ (by kernel_rfl) 32 (by decide) _).mono ?_;rintro e w7 ⟨rfl,bb⟩;have G7:=zqh (G6.out.keep bb);have V7:=zqh (V6.out.keep bb);have X7:=zqh (X6.out.keep bb);have B7:=zqh (below_then B6.out bb);clear G6 V6 X6 B6;clear bb;(go_wp2_with fail);refine hK.out _ _ (fun _ => X7.out) ?_;clear hK K;(try simp only [zq,Act.put]);refine wpAnyG_ready (rs:=[5]) (by kernel_rfl) (by simp) ?_;refine AllReadyG.cons (o:=_) rfl (fun K hK => ?_) AllReadyG.nil;go_simp;(go_wp2_with fail);generalize hw : World.alloc _ _ = w8;have bb : Below w7.heap.size w7 w8:=by rw [← hw]; exact al_one _ _
  have hx : Row w8 (some ⟨w7.heap.size,0,none⟩) 5 5 [40,5,216,360,32]:=by rw [← hw]; exact row_litI _ [40,5,216,360,32] (by decide)
  clear hw;have G8:=zqh (G7.out.keep bb);have V8:=zqh (V7.out.keep bb);have X8:=zqh (X7.out.keep bb);have B8:=zqh (below_then B7.out bb);clear G7 V7 X7 B7;have RW8:=zqh (hx);clear bb hx;refine hK.out _ _ (fun _ => X8.out) ?_;clear hK K;(try simp only [zq,Act.put]);refine wpAnyG_ready (rs:=[6]) (by kernel_rfl) (by simp) ?_;refine AllReadyG.cons (o:=_) rfl (fun K hK => ?_) AllReadyG.nil;go_simp;refine (laid_any (L:=newL 2048) 1368 _ 5 5 [40,5,216,360,32] _ V8.out RW8.out (by decide) (by decide) (by decide) (by decide) (by decide)).mono ?_;rintro e w9 ⟨A2,n2,c2,rfl,hv,bb⟩;have G9:=zqh (G8.out.keep bb);have V9:=zqh (V8.out.keep bb);have X9:=zqh (X8.out.keep bb);have RW9:=zqh (RW8.out.keep bb);have B9:=zqh (below_then B8.out bb);clear G8 V8 X8 RW8 B8;have VX:=zqh hv;clear bb hv;(go_wp2_with fail);refine hK.out _ _ (fun _ => X9.out) ?_;clear hK K;(try simp only [zq,Act.put]);refine wpAnyG_ready (rs:=[7]) (by kernel_rfl) (by simp) ?_;refine AllReadyG.cons (o:=_) rfl (fun K hK => ?_) AllReadyG.nil;refine step_vst rfl _ _ rfl (w1.heap.size) (k) (memK (k) A2 n2 c2) rfl rfl X9.out ?_;refine hK.out _ _ (fun h => by cases h) ?_;clear hK K;(try simp only [zq,Act.put]);refine wpAnyG_done (by kernel_rfl) ?_ _;clear RW9;generalize hw : World.setRow _ _ _ = w10;have G10 : Hid (Glob a w10):=by show Glob _ _; rw [← hw]; exact G9.out.ex LX.out (ex_row _ _ _)
  have V10 : Hid (IsVm w10 (memK (k) A2 n2 c2) (stL9 M5 [] [])):=by show IsVm _ _ _; rw [← hw]; exact isvm_apart VX.out (free_m FX.out _ _ _) (ex_row _ _ _) (vbox_nou8 X9.out)
  have X10 : Hid (VBox w10 (w1.heap.size) (memK (k) A2 n2 c2)):=by show VBox _ _ _; rw [← hw]; exact vrow X9.out _
  have B10 : Hid (Below w.heap.size w w10):=by show Below _ _ _; rw [← hw]; exact below_setRow B9.out NX.out _
  clear hw G9 V9 X9 B9 VX;have S1:=zqh (sc_m S0.out A2 none n2 c2 0 0);(go_wp2_with (first | (refine wpList_vload (by rfl) _ rfl (w1.heap.size) (memK (k) A2 n2 c2) rfl X10.out ?_)));refine (run_st (runs_ten a) _ (by decide) V10.out S1.out G10.out).mono ?_;rintro e w11 ⟨kx,rfl,hv,hs,bb⟩;have G11:=zqh (G10.out.keep bb);have V11:=zqh (V10.out.keep bb);have X11:=zqh (X10.out.keep bb);have B11:=zqh (below_then B10.out bb);clear G10 V10 X10 B10;have VX11:=zqh (hv);clear bb hv hs;go_upto_region 4 with (refine wpList_vstore (by rfl) _ _ rfl _ vm0 (kx) rfl rfl (vbox_zero _) ?_)
  generalize hw : World.setRow _ _ _ = w12;have bb : Below w11.heap.size w11 w12:=by rw [← hw]; exact below_setRow (al_one _ _) (Nat.le_refl _) _
  have hx : VBox w12 w11.heap.size (kx):=by rw [← hw]; exact vrow (vbox_zero _) _
  clear hw;have G12:=zqh (G11.out.keep bb);have V12:=zqh (V11.out.keep bb);have X12:=zqh (X11.out.keep bb);have VX12:=zqh (VX11.out.keep bb);have B12:=zqh (below_then B11.out bb);clear G11 V11 X11 VX11 B11;have Y12:=zqh (hx);clear bb hx;(go_wp2_with (first | (refine wpList_vload (by rfl) _ rfl (w1.heap.size) (memK (k) A2 n2 c2) rfl X12.out ?_) | (refine wpList_vload (by rfl) _ rfl (w11.heap.size) (kx) rfl Y12.out ?_)));refine (run_st (runs_five a) _ (by decide) V12.out S1.out G12.out).mono ?_;rintro e w13 ⟨ky,rfl,hv,hs,bb⟩;have G13:=zqh (G12.out.keep bb);have V13:=zqh (V12.out.keep bb);have X13:=zqh (X12.out.keep bb);have VX13:=zqh (VX12.out.keep bb);have Y13:=zqh (Y12.out.keep bb);have B13:=zqh (below_then B12.out bb);clear G12 V12 X12 VX12 Y12 B12;have VY13:=zqh (hv);clear bb hv hs;go_upto_region 5 with (refine wpList_vstore (by rfl) _ _ rfl _ vm0 (ky) rfl rfl (vbox_zero _) ?_)
  generalize hw : World.setRow _ _ _ = w14;have bb : Below w13.heap.size w13 w14:=by rw [← hw]; exact below_setRow (al_one _ _) (Nat.le_refl _) _
  have hx : VBox w14 w13.heap.size (ky):=by rw [← hw]; exact vrow (vbox_zero _) _
  clear hw;have G14:=zqh (G13.out.keep bb);have V14:=zqh (V13.out.keep bb);have X14:=zqh (X13.out.keep bb);have VX14:=zqh (VX13.out.keep bb);have Y14:=zqh (Y13.out.keep bb);have VY14:=zqh (VY13.out.keep bb);have B14:=zqh (below_then B13.out bb);clear G13 V13 X13 VX13 Y13 VY13 B13;have Z14:=zqh (hx);clear bb hx;(go_wp2_with (first | (refine wpList_vload (by rfl) _ rfl (w1.heap.size) (memK (k) A2 n2 c2) rfl X14.out ?_) | (refine wpList_vload (by rfl) _ rfl (w11.heap.size) (kx) rfl Y14.out ?_) | (refine wpList_vload (by rfl) _ rfl (w13.heap.size) (ky) rfl Z14.out ?_)));refine (rbegin_any _ 1368 3 _).mono ?_;rintro e w15 ⟨rfl,bb⟩;have G15:=zqh (G14.out.keep bb);have V15:=zqh (V14.out.keep bb);have X15:=zqh (X14.out.keep bb);have VX15:=zqh (VX14.out.keep bb);have Y15:=zqh (Y14.out.keep bb);have VY15:=zqh (VY14.out.keep bb);have Z15:=zqh (Z14.out.keep bb);have B15:=zqh (below_then B14.out bb);clear G14 V14 X14 VX14 Y14 VY14 Z14 B14;clear bb;go_upto_region 6 with (refine wpList_rstore (by rfl) _ _ rfl _ rn0 (beginK (memK k A2 n2 c2) 1368 3) rfl rfl (rbox_new _ rn0) ?_)
  generalize hw : World.setRow _ _ _ = w16;have bb : Below w15.heap.size w15 w16:=by rw [← hw]; exact below_setRow (al_one _ _) (Nat.le_refl _) _
  have hx : RBox w16 w15.heap.size (beginK (memK k A2 n2 c2) 1368 3):=by rw [← hw]; exact rrow (rbox_new _ rn0) _
  clear hw;have G16:=zqh (G15.out.keep bb);have V16:=zqh (V15.out.keep bb);have X16:=zqh (X15.out.keep bb);have VX16:=zqh (VX15.out.keep bb);have Y16:=zqh (Y15.out.keep bb);have VY16:=zqh (VY15.out.keep bb);have Z16:=zqh (Z15.out.keep bb);have B16:=zqh (below_then B15.out bb);clear G15 V15 X15 VX15 Y15 VY15 Z15 B15;have R16:=zqh (hx);clear bb hx;have I0:=zqh (begin_st V16.out S1.out 1368 3 a);(go_wp2_with (first | (refine wpList_vload (by rfl) _ rfl (w1.heap.size) (memK (k) A2 n2 c2) rfl X16.out ?_) | (refine wpList_vload (by rfl) _ rfl (w11.heap.size) (kx) rfl Y16.out ?_) | (refine wpList_vload (by rfl) _ rfl (w13.heap.size) (ky) rfl Z16.out ?_) | (refine wpList_rload (by rfl) _ rfl (w15.heap.size) (beginK (memK k A2 n2 c2) 1368 3) rfl R16.out ?_)));refine (step_three a (fun _ => False) _ _ G16.out I0.out).mono ?_;rintro e w17 ⟨j,rfl,hi,bb⟩;have G17:=zqh (G16.out.keep bb);have V17:=zqh (V16.out.keep bb);have X17:=zqh (X16.out.keep bb);have VX17:=zqh (VX16.out.keep bb);have Y17:=zqh (Y16.out.keep bb);have VY17:=zqh (VY16.out.keep bb);have Z17:=zqh (Z16.out.keep bb);have R17:=zqh (R16.out.keep bb);have B17:=zqh (below_then B16.out bb);clear G16 V16 X16 VX16 Y16 VY16 Z16 R16 B16;have J17:=zqh (hi);clear bb hi;go_upto_region 7 with (refine wpList_rstore (by rfl) _ _ rfl _ rn0 (j) rfl rfl (rbox_new _ rn0) ?_)
  generalize hw : World.setRow _ _ _ = w18;have bb : Below w17.heap.size w17 w18:=by rw [← hw]; exact below_setRow (al_one _ _) (Nat.le_refl _) _
  have hx : RBox w18 w17.heap.size (j):=by rw [← hw]; exact rrow (rbox_new _ rn0) _
  clear hw;have G18:=zqh (G17.out.keep bb);have V18:=zqh (V17.out.keep bb);have X18:=zqh (X17.out.keep bb);have VX18:=zqh (VX17.out.keep bb);have Y18:=zqh (Y17.out.keep bb);have VY18:=zqh (VY17.out.keep bb);have Z18:=zqh (Z17.out.keep bb);have R18:=zqh (R17.out.keep bb);have J18:=zqh (J17.out.keep bb);have B18:=zqh (below_then B17.out bb);clear G17 V17 X17 VX17 Y17 VY17 Z17 R17 J17 B17;have Q18:=zqh (hx);clear bb hx;have z1:=Y18.out.c8;have z2:=Z18.out.c8;have z3:=Q18.out.c23;have z4:=Q18.out.c26;rw [show j.ip = 1376 from J18.out.ip] at z3;rw [show j.fu = 2 from J18.out.fu] at z4;(go_wp2_with (first | (refine wpList_vload (by rfl) _ rfl (w1.heap.size) (memK (k) A2 n2 c2) rfl X18.out ?_) | (refine wpList_vload (by rfl) _ rfl (w11.heap.size) (kx) rfl Y18.out ?_) | (refine wpList_vload (by rfl) _ rfl (w13.heap.size) (ky) rfl Z18.out ?_) | (refine wpList_rload (by rfl) _ rfl (w15.heap.size) (beginK (memK k A2 n2 c2) 1368 3) rfl R18.out ?_) | (refine wpList_rload (by rfl) _ rfl (w17.heap.size) (j) rfl Q18.out ?_)));clear z1 z2 z3 z4;generalize hw : World.alloc _ _ = w19;have bb : Below w18.heap.size w18 w19:=by rw [← hw]; exact al_one _ _
  have hx : Row w19 (some ⟨w18.heap.size,0,none⟩) 1 1 [25]:=by rw [← hw]; exact row_litI _ [25] (by simp)
  clear hw;have G19:=zqh (G18.out.keep bb);have V19:=zqh (V18.out.keep bb);have X19:=zqh (X18.out.keep bb);have VX19:=zqh (VX18.out.keep bb);have Y19:=zqh (Y18.out.keep bb);have VY19:=zqh (VY18.out.keep bb);have Z19:=zqh (Z18.out.keep bb);have R19:=zqh (R18.out.keep bb);have J19:=zqh (J18.out.keep bb);have Q19:=zqh (Q18.out.keep bb);have B19:=zqh (below_then B18.out bb);clear G18 V18 X18 VX18 Y18 VY18 Z18 R18 J18 Q18 B18;have RW19:=zqh (hx);clear bb hx;refine (same_ll _ _ _ _ _ _ [25] _ VX19.out.d RW19.out (by decide)).mono ?_;rintro e w20 ⟨rfl,bb⟩;have G20:=zqh (G19.out.keep bb);have V20:=zqh (V19.out.keep bb);have X20:=zqh (X19.out.keep bb);have VX20:=zqh (VX19.out.keep bb);have Y20:=zqh (Y19.out.keep bb);have VY20:=zqh (VY19.out.keep bb);have Z20:=zqh (Z19.out.keep bb);have R20:=zqh (R19.out.keep bb);have J20:=zqh (J19.out.keep bb);have Q20:=zqh (Q19.out.keep bb);have RW20:=zqh (RW19.out.keep bb);have B20:=zqh (below_then B19.out bb);clear G19 V19 X19 VX19 Y19 VY19 Z19 R19 J19 Q19 RW19 B19;clear bb;clear RW20;have z1:=Y20.out.c8;have z2:=Z20.out.c8;have z3:=Q20.out.c23;have z4:=Q20.out.c26;rw [show j.ip = 1376 from J20.out.ip] at z3;rw [show j.fu = 2 from J20.out.fu] at z4;(go_wp2_with (first | (refine wpList_vload (by rfl) _ rfl (w1.heap.size) (memK (k) A2 n2 c2) rfl X20.out ?_) | (refine wpList_vload (by rfl) _ rfl (w11.heap.size) (kx) rfl Y20.out ?_) | (refine wpList_vload (by rfl) _ rfl (w13.heap.size) (ky) rfl Z20.out ?_) | (refine wpList_rload (by rfl) _ rfl (w15.heap.size) (beginK (memK k A2 n2 c2) 1368 3) rfl R20.out ?_) | (refine wpList_rload (by rfl) _ rfl (w17.heap.size) (j) rfl Q20.out ?_)))
  clear z1 z2 z3 z4;generalize hw : World.alloc _ _ = w21;have bb : Below w20.heap.size w20 w21:=by rw [← hw]; exact al_one _ _
  have hx : Row w21 (some ⟨w20.heap.size,0,none⟩) 1 1 [25]:=by rw [← hw]; exact row_litI _ [25] (by simp)
  clear hw;have G21:=zqh (G20.out.keep bb);have V21:=zqh (V20.out.keep bb);have X21:=zqh (X20.out.keep bb);have VX21:=zqh (VX20.out.keep bb);have Y21:=zqh (Y20.out.keep bb);have VY21:=zqh (VY20.out.keep bb);have Z21:=zqh (Z20.out.keep bb);have R21:=zqh (R20.out.keep bb);have J21:=zqh (J20.out.keep bb);have Q21:=zqh (Q20.out.keep bb);have B21:=zqh (below_then B20.out bb);clear G20 V20 X20 VX20 Y20 VY20 Z20 R20 J20 Q20 B20;have RW21:=zqh (hx);clear bb hx;refine (same_ll _ _ _ _ _ _ [25] _ VY21.out.d RW21.out (by decide)).mono ?_;rintro e w22 ⟨rfl,bb⟩;have G22:=zqh (G21.out.keep bb);have V22:=zqh (V21.out.keep bb);have X22:=zqh (X21.out.keep bb);have VX22:=zqh (VX21.out.keep bb);have Y22:=zqh (Y21.out.keep bb);have VY22:=zqh (VY21.out.keep bb);have Z22:=zqh (Z21.out.keep bb);have R22:=zqh (R21.out.keep bb);have J22:=zqh (J21.out.keep bb);have Q22:=zqh (Q21.out.keep bb);have RW22:=zqh (RW21.out.keep bb);have B22:=zqh (below_then B21.out bb);clear G21 V21 X21 VX21 Y21 VY21 Z21 R21 J21 Q21 RW21 B21;clear bb;clear RW22;have z1:=Y22.out.c8;have z2:=Z22.out.c8;have z3:=Q22.out.c23;have z4:=Q22.out.c26;rw [show j.ip = 1376 from J22.out.ip] at z3;rw [show j.fu = 2 from J22.out.fu] at z4;have IR:=zqh (begin_st V22.out S1.out 1368 3 a);(go_wp2_with (first | (refine wpList_vload (by rfl) _ rfl (w1.heap.size) (memK (k) A2 n2 c2) rfl X22.out ?_) | (refine wpList_vload (by rfl) _ rfl (w11.heap.size) (kx) rfl Y22.out ?_) | (refine wpList_vload (by rfl) _ rfl (w13.heap.size) (ky) rfl Z22.out ?_) | (refine wpList_rload (by rfl) _ rfl (w15.heap.size) (beginK (memK k A2 n2 c2) 1368 3) rfl R22.out ?_) | (refine wpList_rload (by rfl) _ rfl (w17.heap.size) (j) rfl Q22.out ?_)))
  refine (rsame_yes (stW a M5 [] [] 16 1368 3) _ _ _ IR.out IR.out len_st).mono ?_;rintro e w23 ⟨rfl,bb⟩;have G23:=zqh (G22.out.keep bb);have V23:=zqh (V22.out.keep bb);have X23:=zqh (X22.out.keep bb);have VX23:=zqh (VX22.out.keep bb);have Y23:=zqh (Y22.out.keep bb);have VY23:=zqh (VY22.out.keep bb);have Z23:=zqh (Z22.out.keep bb);have R23:=zqh (R22.out.keep bb);have J23:=zqh (J22.out.keep bb);have Q23:=zqh (Q22.out.keep bb);have B23:=zqh (below_then B22.out bb);clear G22 V22 X22 VX22 Y22 VY22 Z22 R22 J22 Q22 B22;clear bb z1 z2 z3 z4 IR;have z1:=Y23.out.c8;have z2:=Z23.out.c8;have z3:=Q23.out.c23;have z4:=Q23.out.c26;rw [show j.ip = 1376 from J23.out.ip] at z3;rw [show j.fu = 2 from J23.out.fu] at z4;have IR:=zqh (begin_st V23.out S1.out 1368 3 a);(go_wp2_with (first | (refine wpList_vload (by rfl) _ rfl (w1.heap.size) (memK (k) A2 n2 c2) rfl X23.out ?_) | (refine wpList_vload (by rfl) _ rfl (w11.heap.size) (kx) rfl Y23.out ?_) | (refine wpList_vload (by rfl) _ rfl (w13.heap.size) (ky) rfl Z23.out ?_) | (refine wpList_rload (by rfl) _ rfl (w15.heap.size) (beginK (memK k A2 n2 c2) 1368 3) rfl R23.out ?_) | (refine wpList_rload (by rfl) _ rfl (w17.heap.size) (j) rfl Q23.out ?_)));refine (rsame_no (stW a M5 [] [] 16 1368 3) _ _ _ _ IR.out J23.out (show ((16 : Int) == 1376) = false by decide)).mono ?_;rintro e w24 ⟨rfl,bb⟩;have G24:=zqh (G23.out.keep bb);have V24:=zqh (V23.out.keep bb);have X24:=zqh (X23.out.keep bb);have VX24:=zqh (VX23.out.keep bb)
  have Y24:=zqh (Y23.out.keep bb);have VY24:=zqh (VY23.out.keep bb);have Z24:=zqh (Z23.out.keep bb);have R24:=zqh (R23.out.keep bb);have J24:=zqh (J23.out.keep bb);have Q24:=zqh (Q23.out.keep bb);have B24:=zqh (below_then B23.out bb);clear G23 V23 X23 VX23 Y23 VY23 Z23 R23 J23 Q23 B23;clear bb z1 z2 z3 z4 IR;(go_wp2_with fail);go_ret;exact ⟨rfl,B24.out⟩


def M6 : PM:=laidM B0 1368 [72,1416,152,80,1392,32]


theorem sc_d9 {k j : VmK} (h : Sc k j) (A : Option Addr) (n c : Nat) : Sc { k with dA:=A,dn:=n,dc:=c } j:=⟨h.cm,h.cd,h.cr,h.cw,h.co,h.here,h.last,h.qo,h.free,h.next,h.arg,h.self,h.now⟩


structure Room32 (K : VmK) : Prop where
  d : K.cd = 32
  r : K.cr = 32
end Go.Proofs.YtcmldhjicjmmgaaGreatDoor
