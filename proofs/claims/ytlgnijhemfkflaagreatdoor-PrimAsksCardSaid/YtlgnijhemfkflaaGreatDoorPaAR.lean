/- Part 18. -/
import Derived.Test.YtlgnijhemfkflaaGreatDoorPaAQ
set_option linter.unusedVariables false
set_option linter.unusedSimpArgs false
set_option maxRecDepth 100000
set_option maxHeartbeats 4000000

namespace Go.Proofs.YtlgnijhemfkflaaGreatDoor
open Go.RowKit


theorem isW_zero (b : Int) : isW 48 b = baseB b:=by
  unfold isW baseB wN;rw [decide_eq_decide];simp;omega
theorem pbase_any (b : Int) (w : World) : Calls Tryz.prog 285 #[.int .i64 b] w fun e w' => e = .returned (.bool (baseB b)) ∧ Below w.heap.size w w':=by
  have HW:=zqh (worth_any 48 b w (by omega));rw [isW_zero] at HW;obtain ⟨x,hx⟩ : ∃ x,worthF 48 b = x:=⟨_,rfl⟩;obtain ⟨y,hy⟩ : ∃ y,baseB b = y:=⟨_,rfl⟩;rw [hx,hy] at HW;rw [hy];clear hx hy;go_enter Tryz.func285,Tryz.ntmps285;(go_wp2_with fail);refine HW.out.mono ?_;rintro e w1 ⟨rfl,bb⟩;go_wp2;go_ret;exact ⟨rfl,bb⟩
theorem onward_any (b : Int) (w : World) :
    Calls Tryz.prog 286 #[.int .i64 b] w fun e w' => ∃ p : Addr,e = .returned (.func (.func 301) #[] #[.pointer (some p)]) ∧ w'.cell? p = some (.int .i64 b) ∧ p.block < w'.heap.size ∧ Below w.heap.size w w':=by
  have hmf : ∀ (fn : Fn) (first cap : Array Value) (w : World),(Instr.makeFunc fn first cap).run Tryz.prog w = .ok (.func fn first cap) w:=fun _ _ _ _ => rfl
  go_enter Tryz.func286,Tryz.ntmps286;go_wp2;go_ret;exact ⟨_,rfl,by simp,by simp,al_one _ _⟩
theorem cell_keep {w w' : World} {p : Addr} {v : Value} (h : w.cell? p = some v) (hp : p.block < w.heap.size) (b : Below w.heap.size w w') : w'.cell? p = some v:=by
  rw [← h];exact Below.cell b hp
theorem next_any (lo hi : Int) (k : Nat) (p : Addr) (w : World) (h2 : 2 ≤ k) (h36 : k ≤ 36) (hp : w.cell? p = some (.int .i64 (k : Int))) (hb : p.block < w.heap.size) :
    Calls Tryz.prog 301 #[.int .i64 lo,.int .i64 hi,.pointer (some p)] w fun e w' => e = .returned (.tuple #[.int .i64 (lowI (pairN lo hi / k)),.int .i64 (highI (pairN lo hi / k)),.int .i64 ((pairN lo hi % k : Nat) : Int)]) ∧ Below w.heap.size w w':=by
  obtain ⟨f1,f2,f3,f4⟩:=dig_facts lo hi k h2 h36;obtain ⟨g1,g2,g3⟩:=udiv_facts hi (un hi) k rfl h2 h36;have hH:=un_lt hi;obtain ⟨H,eH⟩ : ∃ H,un hi = H:=⟨_,rfl⟩;rw [eH] at f1 f2 f3 f4 g1 g2 hH;have f5 : ((H / k : Nat) : Int) = highI (pairN lo hi / k):=by
    rw [← f4];have h5 : H / k ≤ H / 2:=Nat.div_le_div_left h2 (by omega);obtain ⟨t,et⟩ : ∃ t,H / k = t:=⟨_,rfl⟩;rw [et] at h5 ⊢;exact (w64_id (by omega) (by omega)).symm
  have h1 : Hid (∀ w,Calls Tryz.prog 92 #[.int .i64 hi,.int .i64 0,.int .i64 (k : Int)] w fun e w' => e = .returned (.tuple #[.int .i64 (highI (pairN lo hi / k)),.int .i64 ((H % k : Nat) : Int),.int .i64 0]) ∧ Below w.heap.size w w'):=by
    show ∀ _,_;intro w;have:=udiv_any hi 0 (k : Int) w (by unfold cellR; omega);rw [g1,g2,g3,f5] at this;exact this
  have h3 : Hid (∀ w,Calls Tryz.prog 92 #[.int .i64 lo,.int .i64 ((H % k : Nat) : Int),.int .i64 (k : Int)] w fun e w' => e = .returned (.tuple #[.int .i64 (lowI (pairN lo hi / k)),.int .i64 ((pairN lo hi % k : Nat) : Int),.int .i64 0]) ∧ Below w.heap.size w w'):=by
    show ∀ _,_;intro w;have:=udiv_any lo ((H % k : Nat) : Int) (k : Int) w (by unfold cellR; omega);rw [f1,f2,f3] at this;exact this
  obtain ⟨a1,e1⟩ : ∃ a,highI (pairN lo hi / k) = a:=⟨_,rfl⟩;obtain ⟨a2,e2⟩ : ∃ a,((H % k : Nat) : Int) = a:=⟨_,rfl⟩;obtain ⟨a3,e3⟩ : ∃ a,lowI (pairN lo hi / k) = a:=⟨_,rfl⟩;obtain ⟨a4,e4⟩ : ∃ a,((pairN lo hi % k : Nat) : Int) = a:=⟨_,rfl⟩;obtain ⟨K,e5⟩ : ∃ K : Int,(k : Int) = K:=⟨_,rfl⟩;rw [e1,e2,e5] at h1;rw [e2,e3,e4,e5] at h3;rw [e1,e3,e4];rw [e5] at hp;clear f1 f2 f3 f4 f5 g1 g2 g3 hH eH e1 e2 e3 e4 e5 h2 h36;go_enter Tryz.func301,Tryz.ntmps301;(go_wp2_with fail);refine (h1.out _).mono ?_;rintro e w1 ⟨rfl,b1⟩;have hp1:=cell_keep hp hb b1;(go_wp2_with fail);refine (h3.out _).mono ?_;rintro e w2 ⟨rfl,b2⟩;go_wp2
  go_ret3
  exact ⟨rfl,below_then b1 b2⟩
theorem digit_same (n : Int) (w : World) :
    Calls Tryz.prog 238 #[.int .i64 n] w fun e w' => e = .returned (.int .u8 (digF n)) ∧ w = w':=by
  by_cases h0 : 0 ≤ n
  · by_cases h9 : n < 10
    · have H : Hid (digF n = 48 + n):=by
        show _ = _;unfold digF digN;rw [if_pos h0,if_pos (by omega)];omega
      go_enter Tryz.func238,Tryz.ntmps238;go_wp2;go_ret;exact ⟨ret_int H.out.symm,rfl⟩
    · have h9' : decide (n < 10) = false:=by simp; omega
      have h10 : 10 ≤ n:=by omega
      by_cases h35 : n < 36
      · have H : Hid (digF n = 65 + n - 10):=by
          show _ = _;unfold digF digN;rw [if_pos h0,if_neg (by omega),if_pos (by omega)];omega
        clear h9;go_enter Tryz.func238,Tryz.ntmps238;go_wp2;go_ret;exact ⟨ret_int H.out.symm,rfl⟩
      · have h35' : decide (n < 36) = false:=by simp; omega
        have H : Hid (digF n = 63):=by
          show _ = _;unfold digF digN;rw [if_pos h0,if_neg (by omega),if_neg (by omega)];rfl
        clear h9 h35;go_enter Tryz.func238,Tryz.ntmps238;go_wp2;go_ret;exact ⟨ret_int H.out.symm,rfl⟩
  · have h0' : decide (0 ≤ n) = false:=by simp; omega
    have h10' : decide (10 ≤ n) = false:=by simp; omega
    have H : Hid (digF n = 63):=by
      show _ = _;unfold digF;rw [if_neg h0]
    clear h0;go_enter Tryz.func238,Tryz.ntmps238;go_wp2;go_ret;exact ⟨ret_int H.out.symm,rfl⟩
theorem dig_fail (A : Option Addr) (n c : Nat) (o : Bool) (l : List UInt8) (lo hi b : Int) (w : World) (h : Byt w (.slice A n c) l) (hb : baseB b = false) :
    Calls Tryz.prog 243 #[.agg #[.slice A n c,.bool o],.int .i64 lo,.int .i64 hi,.int .i64 b] w (DigOut o l lo hi (-24) w):=by
  obtain ⟨o1,ho1⟩ : ∃ o1 : Obj,.cells #[.slice A n c,.bool o] 32 = o1:=⟨_,rfl⟩;obtain ⟨o2,ho2⟩ : ∃ o2 : Obj,.cells #[.slice none 0 0,.bool false] 32 = o2:=⟨_,rfl⟩;obtain ⟨W,hW⟩ : ∃ W,(w.alloc o1).alloc o2 = W:=⟨_,rfl⟩;have kk:=al_two w o1 o2;have hx : PBox ((w.alloc o1).alloc o2) w.heap.size A n c o ∧ PBox ((w.alloc o1).alloc o2) (w.heap.size + 1) none 0 0 false:=by rw [← ho1,← ho2]; exact box_two _ _ _ _ _ _ _
  rw [hW] at kk hx;have HB:=zqh kk;have HX:=zqh hx.2;have HP:=zqh hx.1;have HW:=zqh hW;have HY:=zqh (h.keep kk);have HQ:=zqh (pbase_any b W);rw [hb] at HQ;clear h kk hx hW hb;subst ho1 ho2;go_enter Tryz.func243,Tryz.ntmps243;(go_wp2_with fail);rw [HW.out];refine HQ.out.mono ?_;rintro e w1 ⟨rfl,b1⟩;have XP:=zqh (Box.keep HP.out b1);have XZ:=zqh (Box.keep HX.out b1);obtain ⟨p0,p1,_,_⟩:=XP.out.use;obtain ⟨z0,z1,z2,z3⟩:=XZ.out.use;have lz:=XZ.out.lt;have HBB:=zqh (below_then HB.out b1);have HYY:=zqh (HY.out.keep b1);clear b1 HQ;(go_wp2_with fail);obtain ⟨r0,r1,_,_⟩:=(PBox.put XZ.out (.slice A n c) (.bool o)).use;refine bodyPost_ret (v:=.tuple #[.agg #[.slice A n c,.bool o],.int .i64 lo,.int .i64 hi,.int .i64 (-24)]) ?_ rfl ?_
  · simp [results,Tryz.results243,go_sem,r0,r1]
  · exact ⟨A,n,c,rfl,byt_pset HYY.out XZ.out _ _,below_pset HBB.out (by omega) _ _⟩
theorem dig_any (A : Option Addr) (n c : Nat) (o : Bool) (l : List UInt8) (lo hi b : Int) (w : World) (h : Byt w (.slice A n c) l) (hm : l.length ≤ 1000) (hlo : cellR lo) (hhi : cellR hi) (hb9 : cellR b) :
    Calls Tryz.prog 243 #[.agg #[.slice A n c,.bool o],.int .i64 lo,.int .i64 hi,.int .i64 b] w (DigOut o (digL o l lo hi b) (digLo o l lo hi b) (digHi o l lo hi b) (digC o l b) w):=by
  cases hb : baseB b with
  | false =>
    obtain ⟨H1,H2,H3,H4⟩:=dig_no (o:=o) (l:=l) hb lo hi;rw [H1,H2,H3,H4];exact dig_fail A n c o l lo hi b w h hb
  | true =>
    obtain ⟨b2,b36⟩:=(baseB_iff b).1 hb;obtain ⟨k,rfl⟩:=Int.eq_ofNat_of_zero_le (by omega : 0 ≤ b);have hk2 : 2 ≤ k:=by omega
    have hk36 : k ≤ 36:=by omega
    have HN : Hid (∀ (p : Addr) (w : World),w.cell? p = some (.int .i64 (k : Int)) → p.block < w.heap.size → Calls Tryz.prog 301 #[.int .i64 lo,.int .i64 hi,.pointer (some p)] w fun e w' => e = .returned (.tuple #[.int .i64 (lowI (pairN lo hi / k)),.int .i64 (highI (pairN lo hi / k)),.int .i64 ((pairN lo hi % k : Nat) : Int)]) ∧ Below w.heap.size w w'):=zqh fun p w h h' => next_any lo hi k p w hk2 hk36 h h'
    have HD:=zqh (byte_dig (pairN lo hi) k);have hdu : digU lo hi (k : Int) = UInt8.ofNat (digN (pairN lo hi % k)):=rfl;obtain ⟨x,ex⟩ : ∃ x,UInt8.ofNat (digN (pairN lo hi % k)) = x:=⟨_,rfl⟩;rw [ex] at HD hdu;obtain ⟨m,em⟩ : ∃ m,((pairN lo hi % k : Nat) : Int) = m:=⟨_,rfl⟩;rw [em] at HD HN;obtain ⟨Lo,eLo⟩ : ∃ y,lowI (pairN lo hi / k) = y:=⟨_,rfl⟩;obtain ⟨T,eT⟩ : ∃ T,highI (pairN lo hi / k) = T:=⟨_,rfl⟩;rw [eLo,eT] at HN;have x64 : IntKind.i64.wrap (x.toNat : Int) = (x.toNat : Int):=IntWalk.i64_in _ ⟨by omega,by have:=x.toNat_lt; omega⟩;obtain ⟨o1,ho1⟩ : ∃ o1 : Obj,.cells #[.slice A n c,.bool o] 32 = o1:=⟨_,rfl⟩;obtain ⟨o2,ho2⟩ : ∃ o2 : Obj,.cells #[.slice none 0 0,.bool false] 32 = o2:=⟨_,rfl⟩;obtain ⟨W,hW⟩ : ∃ W,(w.alloc o1).alloc o2 = W:=⟨_,rfl⟩;have kk:=al_two w o1 o2;have hx : PBox ((w.alloc o1).alloc o2) w.heap.size A n c o ∧ PBox ((w.alloc o1).alloc o2) (w.heap.size + 1) none 0 0 false:=by rw [← ho1,← ho2]; exact box_two _ _ _ _ _ _ _
    rw [hW] at kk hx;have HB:=zqh kk;have HX:=zqh hx.2;have HP:=zqh hx.1;have HW:=zqh hW;have HY:=zqh (h.keep kk);have HQ:=zqh (pbase_any (k : Int) W);rw [hb] at HQ;obtain ⟨K,eK⟩ : ∃ K : Int,(k : Int) = K:=⟨_,rfl⟩;cases hk : pOpen o l with
    | false =>
      obtain ⟨H1,H2,H3,H4⟩:=dig_full (o:=o) (l:=l) hb hk lo hi;rw [H1,H2,H3,H4];obtain ⟨HHL,HHC0⟩ : holdL o l (x.toNat : Int) = l ∧ holdC o l = -17:=by unfold holdL holdC; rw [if_neg (by simp [hk]),if_neg (by simp [hk])]; exact ⟨rfl,rfl⟩
      have HHC : Hid (∀ a,Byt a (.slice A n c) l → Calls Tryz.prog 148 #[.agg #[.slice A n c,.bool o],.int .i64 (x.toNat : Int)] a (PicOut o l (-17) a)):=by
        show ∀ _,_;intro a k;have:=hold_any A n c o l (x.toNat : Int) a k hm;rw [HHL,HHC0] at this;exact this
      rw [eK] at HN HQ;rw [eK];clear h H1 H2 H3 H4 hW hx kk ex hb em eLo eT eK HHC0 hdu b2 b36 hk2 hk36;subst ho1 ho2;clear HHL;go_enter Tryz.func243,Tryz.ntmps243;(go_wp2_with fail);rw [HW.out];refine HQ.out.mono ?_;rintro e w1 ⟨rfl,b1⟩;(go_wp2_with fail);refine (onward_any _ _).mono ?_;rintro e w2 ⟨p,rfl,hp,hpb,b2⟩;have b12:=below_then b1 b2;clear b1 b2;(go_wp2_with fail);refine (HN.out p _ hp hpb).mono ?_;rintro e V ⟨rfl,b3⟩;have b13:=below_then b12 b3;have HVB:=zqh (below_then HB.out b13);have HVX:=zqh (Box.keep HX.out b13);have HVP:=zqh (Box.keep HP.out b13);have HVY:=zqh (HY.out.keep b13);have SB : Hid (∀ a,Below V.heap.size V a → (a.cell? ⟨w.heap.size,0,none⟩ = some (.slice A n c) ∧ a.cell? ⟨w.heap.size,1,none⟩ = some (.bool o) ∧ Below V.heap.size V a)):=zqh fun a h => ⟨(Box.use (Box.keep HVP.out h)).1,(Box.use (Box.keep HVP.out h)).2.1,h⟩
      have HH : Hid (∀ a,Below V.heap.size V a → Calls Tryz.prog 148 #[.agg #[.slice A n c,.bool o],.int .i64 (x.toNat : Int)] a fun e w' => ∃ A' n' c',e = .returned (.tuple #[.agg #[.slice A' n' c',.bool o],.int .i64 (-17)]) ∧ Byt w' (.slice A' n' c') l ∧ Below a.heap.size a w'):=by
        show ∀ _,_;intro a k;exact HHC.out a (HVY.out.keep k)
      obtain ⟨s0,s1,s2⟩:=SB.out V (Below.refl _ _);clear b12 b3 hp hpb b13 HQ HHC s2;(go_wp2_with fail);refine wp_region_noPanic ?_
      go_region_held3 (fun a => a.cell? ⟨w.heap.size,0,none⟩ = some (.slice A n c) ∧ a.cell? ⟨w.heap.size,1,none⟩ = some (.bool o) ∧ Below V.heap.size V a) (first | assumption | exact SB.out _ (since_d _) | exact SB.out _ (since_ad _ _) | exact SB.out _ (since_aa s4.2.2 _) | exact SB.out _ (below_pset s4.2.2 (Nat.le_refl _) _ _) | exact SB.out _ (below_pset (since_aa s4.2.2 _) s4.2.2.size _ _))
        (first
          | (go_at_call 238; ((with_reducible refine (digit_same _ _).mono ?_); rw [HD.out]; rintro ed wd ⟨rfl,rfl⟩))
          | (go_at_call 148; ((with_reducible refine (HH.out _ (by assumption : _ ∧ _ ∧ Below V.heap.size V _).2.2).mono ?_); rintro e4 w4 ⟨A4,n4,c4,rfl,hy4,b4⟩; have s4:=SB.out _ (below_then (by assumption : _ ∧ _ ∧ Below V.heap.size V _).2.2 b4); have Q3:=zqh (Box.keep_h (pbox_new V none 0 0 false) b4 rfl); obtain ⟨q2,q3,q4,q5⟩:=Q3.out.use))
          | (go_at_call 148; ((with_reducible refine (HH.out _ (by assumption : _ ∧ _ ∧ Below V.heap.size V _).2.2).mono ?_); rintro e4 w4 ⟨A4,n4,c4,rfl,hy4,b4⟩; have s4:=SB.out _ (below_then (by assumption : _ ∧ _ ∧ Below V.heap.size V _).2.2 b4))))
      all_goals (refine NoPanic.normal ?_)
      all_goals (first
        | (obtain ⟨wf,hwf,zf,bf⟩:=ppack (W:=V) (o':=o) Q3.out hy4 s4.2.2 (Nat.le_refl _); rw [hwf]; clear hwf)
        | (obtain ⟨wf,hwf,zf,bf⟩:=papack (W:=V) (o:=o) hy4 s4.2.2; rw [hwf]; clear hwf))
      all_goals (have XP:=zqh (Box.keep HVP.out bf); have XZ:=zqh (Box.keep HVX.out bf); obtain ⟨p0,p1,_,_⟩:=XP.out.use; obtain ⟨z0,z1,z2,z3⟩:=XZ.out.use; have lz:=XZ.out.lt; have HBB:=zqh (below_then HVB.out bf); have HYY:=zqh (HVY.out.keep bf); obtain ⟨x0,x1⟩:=zf.out.use; clear bf)
      all_goals go_wp2_with fail
      all_goals (obtain ⟨r0,r1,_,_⟩:=(PBox.put XZ.out (.slice A n c) (.bool o)).use)
      all_goals refine bodyPost_ret (v:=.tuple #[.agg #[.slice A n c,.bool o],.int .i64 lo,.int .i64 hi,.int .i64 (-17)]) ?_ rfl ?_
      all_goals first
        | (simp [results,Tryz.results243,go_sem,r0,r1]; done)
        | exact ⟨A,n,c,rfl,byt_pset HYY.out XZ.out _ _,below_pset HBB.out (by omega) _ _⟩
    | true =>
      obtain ⟨H1,H2,H3,H4⟩:=dig_ok (o:=o) (l:=l) hb hk lo hi;rw [Int.toNat_natCast] at H2 H3;rw [hdu] at H1;rw [eLo] at H2;rw [eT] at H3;rw [H1,H2,H3,H4];obtain ⟨HHL,HHC0⟩ : holdL o l (x.toNat : Int) = l ++ [x] ∧ holdC o l = 0:=by unfold holdL holdC; rw [if_pos hk,if_pos hk,byteI_u8]; exact ⟨rfl,rfl⟩
      have HHC : Hid (∀ a,Byt a (.slice A n c) l → Calls Tryz.prog 148 #[.agg #[.slice A n c,.bool o],.int .i64 (x.toNat : Int)] a (PicOut o (l ++ [x]) 0 a)):=by
        show ∀ _,_;intro a k;have:=hold_any A n c o l (x.toNat : Int) a k hm;rw [HHL,HHC0] at this;exact this
      rw [eK] at HN HQ;rw [eK];clear h H1 H2 H3 H4 hW hx kk ex hb em eLo eT eK HHC0 hdu b2 b36 hk2 hk36;subst ho1 ho2;clear HHL;go_enter Tryz.func243,Tryz.ntmps243;(go_wp2_with fail);rw [HW.out];refine HQ.out.mono ?_;rintro e w1 ⟨rfl,b1⟩;(go_wp2_with fail);refine (onward_any _ _).mono ?_;rintro e w2 ⟨p,rfl,hp,hpb,b2⟩;have b12:=below_then b1 b2;clear b1 b2;(go_wp2_with fail);refine (HN.out p _ hp hpb).mono ?_;rintro e V ⟨rfl,b3⟩;have b13:=below_then b12 b3;have HVB:=zqh (below_then HB.out b13);have HVX:=zqh (Box.keep HX.out b13);have HVP:=zqh (Box.keep HP.out b13);have HVY:=zqh (HY.out.keep b13);have SB : Hid (∀ a,Below V.heap.size V a → (a.cell? ⟨w.heap.size,0,none⟩ = some (.slice A n c) ∧ a.cell? ⟨w.heap.size,1,none⟩ = some (.bool o) ∧ Below V.heap.size V a)):=zqh fun a h => ⟨(Box.use (Box.keep HVP.out h)).1,(Box.use (Box.keep HVP.out h)).2.1,h⟩
      have HH : Hid (∀ a,Below V.heap.size V a → Calls Tryz.prog 148 #[.agg #[.slice A n c,.bool o],.int .i64 (x.toNat : Int)] a fun e w' => ∃ A' n' c',e = .returned (.tuple #[.agg #[.slice A' n' c',.bool o],.int .i64 (0)]) ∧ Byt w' (.slice A' n' c') (l ++ [x]) ∧ Below a.heap.size a w'):=by
        show ∀ _,_;intro a k;exact HHC.out a (HVY.out.keep k)
      obtain ⟨s0,s1,s2⟩:=SB.out V (Below.refl _ _);clear b12 b3 hp hpb b13 HQ HHC s2;(go_wp2_with fail);refine wp_region_noPanic ?_
      go_region_held3 (fun a => a.cell? ⟨w.heap.size,0,none⟩ = some (.slice A n c) ∧ a.cell? ⟨w.heap.size,1,none⟩ = some (.bool o) ∧ Below V.heap.size V a) (first | assumption | exact SB.out _ (since_d _) | exact SB.out _ (since_ad _ _) | exact SB.out _ (since_aa s4.2.2 _) | exact SB.out _ (below_pset s4.2.2 (Nat.le_refl _) _ _) | exact SB.out _ (below_pset (since_aa s4.2.2 _) s4.2.2.size _ _))
        (first
          | (go_at_call 238; ((with_reducible refine (digit_same _ _).mono ?_); rw [HD.out]; rintro ed wd ⟨rfl,rfl⟩))
          | (go_at_call 148; ((with_reducible refine (HH.out _ (by assumption : _ ∧ _ ∧ Below V.heap.size V _).2.2).mono ?_); rintro e4 w4 ⟨A4,n4,c4,rfl,hy4,b4⟩; have s4:=SB.out _ (below_then (by assumption : _ ∧ _ ∧ Below V.heap.size V _).2.2 b4); have Q3:=zqh (Box.keep_h (pbox_new V none 0 0 false) b4 rfl); obtain ⟨q2,q3,q4,q5⟩:=Q3.out.use))
          | (go_at_call 148; ((with_reducible refine (HH.out _ (by assumption : _ ∧ _ ∧ Below V.heap.size V _).2.2).mono ?_); rintro e4 w4 ⟨A4,n4,c4,rfl,hy4,b4⟩; have s4:=SB.out _ (below_then (by assumption : _ ∧ _ ∧ Below V.heap.size V _).2.2 b4))))
      all_goals (refine NoPanic.normal ?_)
      all_goals (first
        | (obtain ⟨wf,hwf,zf,bf⟩:=ppack (W:=V) (o':=o) Q3.out hy4 s4.2.2 (Nat.le_refl _); rw [hwf]; clear hwf)
        | (obtain ⟨wf,hwf,zf,bf⟩:=papack (W:=V) (o:=o) hy4 s4.2.2; rw [hwf]; clear hwf))
      all_goals (have XP:=zqh (Box.keep HVP.out bf); have XZ:=zqh (Box.keep HVX.out bf); obtain ⟨p0,p1,_,_⟩:=XP.out.use; obtain ⟨z0,z1,z2,z3⟩:=XZ.out.use; have lz:=XZ.out.lt; have HBB:=zqh (below_then HVB.out bf); have HYY:=zqh (zf.out.byt); obtain ⟨x0,x1⟩:=zf.out.use; clear bf)
      all_goals go_wp2_with fail
      all_goals (obtain ⟨r0,r1,_,_⟩:=(PBox.put XZ.out (.slice A4 n4 c4) (.bool o)).use)
      all_goals refine bodyPost_ret (v:=.tuple #[.agg #[.slice A4 n4 c4,.bool o],.int .i64 Lo,.int .i64 T,.int .i64 0]) ?_ rfl ?_
      all_goals first
        | (simp [results,Tryz.results243,go_sem,r0,r1]; done)
        | exact ⟨A4,n4,c4,rfl,byt_pset HYY.out XZ.out _ _,below_pset HBB.out (by omega) _ _⟩
end Go.Proofs.YtlgnijhemfkflaaGreatDoor

namespace Go.Proofs.YtlgnijhemfkflaaGreatDoor
open Go.RowKit


def AllJ (o : Bool) (l : List UInt8) (lo hi b : Int) (l' : List UInt8) (low high : Int) (more : Bool) : Prop :=
  (more = true ∧ l'.length ≤ 1000 ∧ AllInv o l lo hi b (digL o l' low high b) (pairN (digLo o l' low high b) (digHi o l' low high b)) (digC o l' b)) ∨ (more = false ∧ AllInv o l lo hi b l' 0 0)
def measJ (low high more : Value) : Nat:=match more with
  | .bool true => pairN (intOf low) (intOf high) + 1
  | _ => 0
theorem AllJ.start {o : Bool} {l : List UInt8} {lo hi b : Int} (hm : l.length ≤ 1000) : AllJ o l lo hi b l lo hi true:=.inl ⟨rfl,hm,inv_start hm⟩
theorem AllJ.len {o : Bool} {l l' : List UInt8} {lo hi b low high : Int} (h : AllJ o l lo hi b l' low high true) : l'.length ≤ 1000:=by
  rcases h with ⟨_,h,_⟩ | ⟨h,_⟩
  · exact h
  · cases h
theorem AllJ.inv {o : Bool} {l l' : List UInt8} {lo hi b low high : Int} (h : AllJ o l lo hi b l' low high true) : AllInv o l lo hi b (digL o l' low high b) (pairN (digLo o l' low high b) (digHi o l' low high b)) (digC o l' b):=by
  rcases h with ⟨_,_,h⟩ | ⟨h,_⟩
  · exact h
  · cases h
theorem AllJ.done {o : Bool} {l l' : List UInt8} {lo hi b low high : Int} (h : AllJ o l lo hi b l' low high false) : l' = allL o l lo hi b ∧ allC o l lo hi b = 0:=by
  rcases h with ⟨h,_⟩ | ⟨_,h⟩
  · cases h
  · exact AllInv.done h
theorem AllJ.more {o : Bool} {l l' : List UInt8} {lo hi b low high : Int} (h : AllInv o l lo hi b l' (pairN low high) 0) (h0 : pairN low high ≠ 0) : AllJ o l lo hi b l' low high true:=.inl ⟨rfl,h.len,h.next h0⟩
theorem AllJ.last {o : Bool} {l l' : List UInt8} {lo hi b : Int} (h : AllInv o l lo hi b l' (pairN 0 0) 0) : AllJ o l lo hi b l' 0 0 false:=.inr ⟨rfl,h⟩
theorem digC_ok {o : Bool} {l : List UInt8} {b : Int} (h : digC o l b = 0) : baseB b = true ∧ pOpen o l = true:=by
  unfold digC holdC at h;cases hb : baseB b with
  | false => rw [hb] at h; simp at h
  | true =>
    refine ⟨rfl,?_⟩;cases hk : pOpen o l with
    | false => rw [hb,hk] at h; simp at h
    | true => rfl
theorem dig_smaller {o : Bool} {l : List UInt8} {low high b : Int} (h : digC o l b = 0) (h0 : pairN (digLo o l low high b) (digHi o l low high b) ≠ 0) : pairN (digLo o l low high b) (digHi o l low high b) < pairN low high:=by
  obtain ⟨hb,hk⟩:=digC_ok h;obtain ⟨_,e1,e2,_⟩:=dig_ok hb hk low high;rw [e1,e2,pair_back (div_lt _ _ (pairN_lt _ _))] at h0 ⊢;refine Nat.div_lt_self ?_ (base_nat hb).1
  rcases Nat.eq_zero_or_pos (pairN low high) with h | h
  · rw [h,Nat.zero_div] at h0; exact absurd rfl h0
  · exact h
theorem all_any (A : Option Addr) (n c : Nat) (o : Bool) (l : List UInt8) (lo hi b : Int) (w : World) (h : Byt w (.slice A n c) l) (hm : l.length ≤ 1000) (hlo : cellR lo) (hhi : cellR hi) (hb : cellR b) :
    Calls Tryz.prog 244 #[.agg #[.slice A n c,.bool o],.int .i64 lo,.int .i64 hi,.int .i64 b] w (PicOut o (allL o l lo hi b) (allC o l lo hi b) w):=by
  have HJ:=zqh (AllJ.start (lo:=lo) (hi:=hi) (b:=b) (o:=o) hm);have HC1 : Hid (cellR lo ∧ cellR hi):=⟨hlo,hhi⟩;have HD : Hid (∀ (a : World) (A : Option Addr) (n c : Nat) (l : List UInt8) (lo hi : Int),Byt a (.slice A n c) l → l.length ≤ 1000 → cellR lo → cellR hi → Calls Tryz.prog 243 #[.agg #[.slice A n c,.bool o],.int .i64 lo,.int .i64 hi,.int .i64 b] a (DigOut o (digL o l lo hi b) (digLo o l lo hi b) (digHi o l lo hi b) (digC o l b) a)):=fun a A n c l lo hi h hm h1 h2 => dig_any A n c o l lo hi b a h hm h1 h2 hb
  obtain ⟨o1,ho1⟩ : ∃ o1 : Obj,.cells #[.slice A n c,.bool o] 32 = o1:=⟨_,rfl⟩;obtain ⟨o2,ho2⟩ : ∃ o2 : Obj,.cells #[.slice none 0 0,.bool false] 32 = o2:=⟨_,rfl⟩;obtain ⟨W,hW⟩ : ∃ W,(w.alloc o1).alloc o2 = W:=⟨_,rfl⟩;have kk:=al_two w o1 o2;have hx : PBox ((w.alloc o1).alloc o2) w.heap.size A n c o ∧ PBox ((w.alloc o1).alloc o2) (w.heap.size + 1) none 0 0 false:=by rw [← ho1,← ho2]; exact box_two _ _ _ _ _ _ _
  have hs : W.heap.size = w.heap.size + 1 + 1:=by rw [← hW]; simp
  rw [hW] at kk hx;obtain ⟨V,hV⟩ : ∃ V,W.alloc o1 = V:=⟨_,rfl⟩;have hVb : Below W.heap.size W V:=by rw [← hV]; exact al_one _ _
  have HA0 : Hid (PAt W.heap.size A n c o l V):=by rw [← hV,← ho1]; exact pat_new (h.keep kk)
  have HB:=zqh kk;have HB1:=zqh hVb;have HX:=zqh hx.2;have HP:=zqh hx.1;have HW : Hid (((w.alloc o1).alloc o2).alloc o1 = V):=by show _ = _; rw [hW,hV]
  have HY:=zqh (h.keep kk);obtain ⟨RL,eRL⟩ : ∃ x,allL o l lo hi b = x:=⟨_,rfl⟩;obtain ⟨RC,eRC⟩ : ∃ x,allC o l lo hi b = x:=⟨_,rfl⟩;have HRL:=zqh eRL;have HRC:=zqh eRC;rw [eRL,eRC];rw [hs] at HA0;obtain ⟨bx,ebx⟩ : ∃ x,w.heap.size + 1 + 1 = x:=⟨_,rfl⟩;rw [ebx] at HA0;have HBX : Hid (W.heap.size ≤ bx):=by show _ ≤ _; omega
  have HNE : Hid (w.heap.size ≠ bx ∧ w.heap.size + 1 ≠ bx):=by show _ ∧ _; omega
  clear h kk hx hW hlo hhi eRL eRC hV hVb hs;subst ho1 ho2;go_enter Tryz.func244,Tryz.ntmps244;(go_wp2_with fail);rw [HW.out];clear ebx
  go_loopw [1,2,11] (fun s1 s2 s11 wr => ∃ (low high : Int) (more : Bool) (A2 : Option Addr) (n2 c2 : Nat) (l2 : List UInt8),s1 = .int .i64 low ∧ s2 = .int .i64 high ∧ s11 = .bool more ∧ Hid (PAt bx A2 n2 c2 o l2 wr) ∧ Hid (Below W.heap.size W wr) ∧ Hid (AllJ o l lo hi b l2 low high more) ∧ Hid (cellR low ∧ cellR high)) (fun s1 s2 s11 _ => measJ s1 s2 s11)
  case atStart => exact ⟨lo,hi,true,A,n,c,l,rfl,rfl,rfl,HA0,HB1,HJ,HC1⟩
  case round =>
    clear HA0 HB1 HJ HC1;obtain ⟨low,high,more,A2,n2,c2,l2,rfl,rfl,rfl,HA2,HB2,HJ2,HC2⟩:=hrel;obtain ⟨x0,x1⟩:=HA2.out.use;have XP:=zqh (Box.keep HP.out HB2.out);have XZ:=zqh (Box.keep HX.out HB2.out);have HBB:=zqh (below_then HB.out HB2.out);cases more with
    | false =>
      obtain ⟨e1,e2⟩:=AllJ.done HJ2.out;have HRC0 : Hid (RC = 0):=HRC.out.symm.trans e2;have HL2 : Hid (l2 = RL):=e1.trans HRL.out;obtain ⟨z0,z1,z2,z3⟩:=XZ.out.use;have lz:=XZ.out.lt;clear e1 e2 HJ2;(go_wp2_with fail);obtain ⟨r0,r1,_,_⟩:=(PBox.put XZ.out (.slice A2 n2 c2) (.bool o)).use;refine bodyPost_ret (v:=.tuple #[.agg #[.slice A2 n2 c2,.bool o],.int .i64 0]) ?_ rfl ?_
      · simp [results,Tryz.results244,go_sem,r0,r1]
      · rw [HRC0.out]
        exact ⟨A2,n2,c2,rfl,byt_pset (HL2.out ▸ HA2.out.byt) XZ.out _ _,below_pset HBB.out (by omega) _ _⟩
    | true =>
      have HI2:=zqh (AllJ.inv HJ2.out);have HC3 : Hid (cellR (digLo o l2 low high b) ∧ cellR (digHi o l2 low high b)):=⟨digLo_cell HC2.out.1,digHi_cell HC2.out.2⟩;have HS:=zqh (dig_smaller (o:=o) (l:=l2) (low:=low) (high:=high) (b:=b));have H3:=zqh (HD.out _ A2 n2 c2 l2 low high HA2.out.byt (AllJ.len HJ2.out) HC2.out.1 HC2.out.2);obtain ⟨L3,eL3⟩ : ∃ x,digL o l2 low high b = x:=⟨_,rfl⟩;obtain ⟨lo3,elo3⟩ : ∃ x,digLo o l2 low high b = x:=⟨_,rfl⟩;obtain ⟨hi3,ehi3⟩ : ∃ x,digHi o l2 low high b = x:=⟨_,rfl⟩;obtain ⟨c3,ec3⟩ : ∃ x,digC o l2 b = x:=⟨_,rfl⟩;rw [eL3,elo3,ehi3,ec3] at HI2 H3;rw [elo3,ehi3] at HC3 HS;rw [ec3] at HS;clear eL3 elo3 ehi3 ec3 HJ2 HC2 x0 x1
      by_cases hc : c3 = 0
      · subst hc
        have HS1:=zqh (HS.out rfl)
        by_cases hu : pairN lo3 hi3 = 0
        · obtain ⟨rfl,rfl⟩:=(pair_zero HC3.out.1 HC3.out.2).1 hu
          have HJ3:=zqh (AllJ.last HI2.out);clear hu HS HS1 HI2;obtain ⟨x0,x1⟩:=HA2.out.use;(go_wp2_with fail);refine H3.out.mono ?_;rintro e w3 ⟨A3,n3,k3,rfl,hy3,b3⟩;have HA3:=zqh hy3;have XB:=zqh (Box.keep HA2.out.1 b3);have HB3:=zqh (below_then HB2.out b3);obtain ⟨q2,q3,q4,q5⟩:=XB.out.use;have lq:=XB.out.lt;clear hy3 b3 x0 x1;(go_wp2_with fail)
          go_roundw
          case rel => exact ⟨0,0,false,A3,n3,k3,L3,rfl,rfl,rfl,zqh (pat_set XB.out HA3.out),zqh (below_pset HB3.out HBX.out _ _),HJ3,HC3⟩
          case measure => exact Nat.succ_pos _
        · have HJ3:=zqh (AllJ.more HI2.out hu)
          have HM:=HS1.out hu;have h2 : lo3 ≠ 0 ∨ (lo3 = 0 ∧ hi3 ≠ 0):=by
            by_cases h : lo3 = 0
            · exact .inr ⟨h,fun h' => hu ((pair_zero HC3.out.1 HC3.out.2).2 ⟨h,h'⟩)⟩
            · exact .inl h
          have HMM : Hid (measJ (.int .i64 lo3) (.int .i64 hi3) (.bool true) < measJ (.int .i64 low) (.int .i64 high) (.bool true)):=by
            show pairN lo3 hi3 + 1 < pairN low high + 1;omega
          clear hu HS HS1 HI2 HM
          rcases h2 with hl0 | ⟨rfl,hh0⟩
          · have hl1 : ((lo3 : Int) != 0) = true:=by simpa using hl0
            have hl2 : ((lo3 : Int) == 0) = false:=by simpa using hl0
            obtain ⟨x0,x1⟩:=HA2.out.use;(go_wp2_with fail);refine H3.out.mono ?_;rintro e w3 ⟨A3,n3,k3,rfl,hy3,b3⟩;have HA3:=zqh hy3;have XB:=zqh (Box.keep HA2.out.1 b3);have HB3:=zqh (below_then HB2.out b3);obtain ⟨q2,q3,q4,q5⟩:=XB.out.use;have lq:=XB.out.lt;clear hy3 b3 x0 x1;(go_wp2_with fail)
            go_roundw
            case rel => exact ⟨lo3,hi3,true,A3,n3,k3,L3,rfl,rfl,rfl,zqh (pat_set XB.out HA3.out),zqh (below_pset HB3.out HBX.out _ _),HJ3,HC3⟩
            case measure => exact HMM.out
          · have hl1 : ((hi3 : Int) != 0) = true:=by simpa using hh0
            have hl2 : ((hi3 : Int) == 0) = false:=by simpa using hh0
            obtain ⟨x0,x1⟩:=HA2.out.use;(go_wp2_with fail);refine H3.out.mono ?_;rintro e w3 ⟨A3,n3,k3,rfl,hy3,b3⟩;have HA3:=zqh hy3;have XB:=zqh (Box.keep HA2.out.1 b3);have HB3:=zqh (below_then HB2.out b3);obtain ⟨q2,q3,q4,q5⟩:=XB.out.use;have lq:=XB.out.lt;clear hy3 b3 x0 x1;(go_wp2_with fail)
            go_roundw
            case rel => exact ⟨0,hi3,true,A3,n3,k3,L3,rfl,rfl,rfl,zqh (pat_set XB.out HA3.out),zqh (below_pset HB3.out HBX.out _ _),HJ3,HC3⟩
            case measure => exact HMM.out
      · obtain ⟨e1,e2⟩:=AllInv.fell HI2.out hc
        have HRC0 : Hid (c3 = RC):=e2.trans HRC.out;have HL2 : Hid (l = RL):=e1.symm.trans HRL.out;have hb1 : ((c3 : Int) != 0) = true:=by simpa using hc
        have hb2 : ((c3 : Int) == 0) = false:=by simpa using hc
        clear e1 e2 HI2 HS;obtain ⟨x0,x1⟩:=HA2.out.use;(go_wp2_with fail);refine H3.out.mono ?_;rintro e w3 ⟨A3,n3,k3,rfl,hy3,b3⟩;have XB:=zqh (Box.keep HA2.out.1 b3);obtain ⟨q2,q3,q4,q5⟩:=XB.out.use;have lq:=XB.out.lt;have XP3:=zqh (Box.keep HP.out (below_then HB2.out b3));have XZ3:=zqh (Box.keep HX.out (below_then HB2.out b3));have YP:=zqh (pbox_far XP3.out HNE.out.1 (.slice A3 n3 k3) (.bool o));have YZ:=zqh (pbox_far XZ3.out HNE.out.2 (.slice A3 n3 k3) (.bool o));have HF:=below_pset (below_then HB2.out b3) HBX.out (.slice A3 n3 k3) (.bool o);have HBF:=zqh (below_then HB.out HF);have HYF:=zqh (HY.out.keep HF);obtain ⟨wf,hwf⟩ : ∃ wf,(w3.setCell ⟨bx,0,none⟩ (.slice A3 n3 k3)).setCell ⟨bx,1,none⟩ (.bool o) = wf:=⟨_,rfl⟩;rw [hwf] at YP YZ HBF HYF;obtain ⟨z0,z1,z2,z3⟩:=YZ.out.use;obtain ⟨p0,p1,_,_⟩:=YP.out.use;have lz:=YZ.out.lt;have HWF:=zqh hwf;clear HF hy3 b3 x0 x1 hwf;go_upto_region 7 with fail
        rw [HWF.out];(go_wp2_with fail);obtain ⟨r0,r1,_,_⟩:=(PBox.put YZ.out (.slice A n c) (.bool o)).use;refine bodyPost_ret (v:=.tuple #[.agg #[.slice A n c,.bool o],.int .i64 c3]) ?_ rfl ?_
        · simp [results,Tryz.results244,go_sem,r0,r1]
        · rw [HRC0.out]
          exact ⟨A,n,c,rfl,byt_pset (HL2.out ▸ HYF.out) YZ.out _ _,below_pset HBF.out (by omega) _ _⟩
end Go.Proofs.YtlgnijhemfkflaaGreatDoor

namespace Go.Proofs.YtlgnijhemfkflaaGreatDoor
open Go.RowKit


theorem clone_any (A : Option Addr) (n c : Nat) (l : List UInt8) (w : World) (h : Byt w (.slice A n c) l) (hm : l.length ≤ 1000) :
    Calls Tryz.prog 287 #[.slice A n c] w fun e w' => ∃ v,e = .returned v ∧ BOwns w' w.heap.size v l.length l ∧ Below w.heap.size w w':=by
  have hl:=h.len;have q : ∀ w,_:=fun w => Lib.run_eql_slice_nil (P:=Tryz.prog) w 24 5 A n c 0 0 Tryz.underlying24
  cases A with
  | none =>
    have hn : n = 0:=by
      rcases h.lies with h | ⟨_,_,e,_⟩
      · have:=congrArg List.length h
        rw [u8s_len] at this;have h0 : l.length = 0:=this;omega
      · cases e
    subst hn;obtain rfl:=len_zero hl;rw [Option.isNone_none] at q;clear h hl;go_enter Tryz.func287,Tryz.ntmps287;go_wp2;go_ret;exact ⟨_,rfl,bowns_none _ _,Below.refl _ _⟩
  | some ad =>
    have HY:=zqh (h.keep (al_one w (.cells #[] 5)));have HN : Hid (n ≤ 1000):=by show _ ≤ _; omega
    subst hl;rw [Option.isNone_some] at q;clear h;go_enter Tryz.func287,Tryz.ntmps287;(go_wp2_with (at_builtin; (refine wpList_bapp rfl _ _ rfl w.heap.size (.slice (some ⟨w.heap.size,0,none⟩) 0 0) 0 [] rfl (none_bowns w) (some ad) l.length c l rfl HY.out (by have:=HN.out; omega) (by simp) w (al_one _ _) (Nat.le_refl _) ?_; intro v1 w1 u1 u2 u3; have O1:=zqh u1; have B1:=zqh u2; clear u1 u2 u3)));obtain ⟨A1,n1,c1,rfl⟩:=byt_slice O1.out.byt;go_ret;refine ⟨_,rfl,?_,B1.out⟩;have:=O1.out;rw [Nat.zero_add,List.nil_append] at this;exact this
theorem rev_none (A : Option Addr) (c : Nat) (w : World) : Calls Tryz.prog 239 #[.slice A 0 c] w fun e w' => e = .returned (.tuple #[]) ∧ w = w':=by
  go_enter Tryz.func239,Tryz.ntmps239;go_wp2;refine wp_loop_rounds 1 ?_;rw [rounds_succ];go_wp2;refine bodyPost_end (v:=.tuple #[]) ?_ rfl ?_
  · simp [results,Tryz.results239,go_sem]
  · exact ⟨rfl,rfl⟩
theorem rev_any (W w : World) (v : Value) (l : List UInt8) (h : BOwns w W.heap.size v l.length l) (hb : Below W.heap.size W w) (hm : l.length ≤ 1000) :
    Calls Tryz.prog 239 #[v] w fun e w' => e = .returned (.tuple #[]) ∧ Byt w' v l.reverse ∧ Below W.heap.size W w':=by
  by_cases hl : l = []
  · subst hl
    obtain ⟨A,n,c,rfl⟩:=byt_slice h.byt;have hn:=h.byt.len;have h0 : n = 0:=hn.symm;subst h0;refine (rev_none A c w).mono ?_;rintro e w' ⟨rfl,rfl⟩;exact ⟨rfl,h.byt,hb⟩
  · refine (rev_own w W.heap.size l.length v l h hl (by omega)).mono ?_
    rintro e w' ⟨rfl,hy,hw⟩;exact ⟨rfl,hy,hw W hb (Nat.le_refl _)⟩
theorem end_any (A : Option Addr) (n c : Nat) (o : Bool) (l : List UInt8) (w : World) (h : Byt w (.slice A n c) l) (hm : l.length ≤ 1000) :
    Calls Tryz.prog 246 #[.agg #[.slice A n c,.bool o]] w fun e w' => e = .returned (.tuple #[.string (strB (endL o l)),.int .i64 (endC o)]) ∧ Below w.heap.size w w':=by
  cases o with
  | false =>
    have H1 : Hid (strB (endL false l) = ⟨#[]⟩):=by show _ = _; unfold endL; rw [if_neg (by simp)]; rfl
    have H2 : Hid (endC false = -17):=rfl;rw [H1.out,H2.out];clear h hm;go_enter Tryz.func246,Tryz.ntmps246;go_wp2;go_ret2;exact ⟨rfl,al_one _ _⟩
  | true =>
    have H1 : Hid (endL true l = l.reverse):=by show _ = _; unfold endL; rw [if_pos rfl]
    have H2 : Hid (endC true = 0):=rfl;rw [H1.out,H2.out];obtain ⟨W,hW⟩ : ∃ W,w.alloc (.cells #[.slice A n c,.bool true] 32) = W:=⟨_,rfl⟩;have hB:=al_one w (.cells #[.slice A n c,.bool true] 32);rw [hW] at hB;have HB:=zqh hB;have HW:=zqh hW;have HC:=zqh (clone_any A n c l W (h.keep hB) hm);have HM:=zqh hm;clear h hB hW hm;go_enter Tryz.func246,Tryz.ntmps246;(go_wp2_with fail);rw [HW.out];refine HC.out.mono ?_;rintro e w1 ⟨v,rfl,ho,b1⟩;have HR:=zqh (rev_any W w1 v l ho b1 HM.out);clear ho b1 HC;(go_wp2_with fail);refine HR.out.mono ?_;rintro e w2 ⟨rfl,hy,b2⟩;have HBB:=zqh (below_then HB.out b2);obtain ⟨A',n',c',rfl⟩:=byt_slice hy;have cv:=conv_any hy;clear hy b2 HR;(go_wp2_with fail);go_ret2;exact ⟨rfl,HBB.out⟩
end Go.Proofs.YtlgnijhemfkflaaGreatDoor
