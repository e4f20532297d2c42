/- Part 8. -/
import Derived.Test.YtlgnijhemfkflaaGreatDoorPaAG
import Derived.Lib.Mul64
set_option linter.unusedVariables false
set_option linter.unusedSimpArgs false
set_option maxRecDepth 100000
set_option maxHeartbeats 4000000

namespace Go.Proofs.YtlgnijhemfkflaaGreatDoor
open Go.RowKit


theorem conv_row {w : World} {v : Value} {l : List UInt8} (h : Byt w v l) (hne : l ≠ []) : (convert 24 9 v).run Tryz.prog w = .ok (.string (strB l)) w:=by
  obtain ⟨A,c,rfl,_,_,hli⟩:=h
  rcases hli with h | ⟨g,o,rfl,_,hc⟩
  · have:=congrArg List.length h
    rw [u8s_len] at this;exact absurd (List.eq_nil_of_length_eq_zero this) hne
  · refine run_convert_bytes_back w 24 9 5 ⟨g,o,none⟩ c l Tryz.underlying24 Tryz.underlying5 Tryz.underlying9 fun j hj => ?_
    have:=hc j (encB l[j]) (by unfold u8s; rw [List.getElem?_map,List.getElem?_eq_getElem hj]; rfl);rw [← this,add_at]
theorem BOwns.keep {w w' : World} {base n : Nat} {v : Value} {l : List UInt8} (h : BOwns w base v n l) (b : Below w.heap.size w w') : BOwns w' base v n l:=by
  refine ⟨h.1,?_⟩
  rcases h.2 with h2 | ⟨g,cap,cur,e,hb,hg,h3,h4,h5,h6⟩
  · exact .inl h2
  · exact .inr ⟨g,cap,cur,e,hb,(b.block g (Array.getElem?_eq_some_iff.1 hg).1).trans hg,h3,h4,h5,h6⟩
def measU (a b : Value) : Nat:=match b with | .bool true => un (intOf a) + 1 | _ => 0
theorem udiv_facts (N : Int) (u k : Nat) (hu : un N = u) (h2 : 2 ≤ k) (h36 : k ≤ 36) : uq N 0 (k : Int) = ((u / k : Nat) : Int) ∧ ur N 0 (k : Int) = ((u % k : Nat) : Int) ∧ uc 0 (k : Int) = 0:=by
  have e0 : un 0 = 0:=by decide +kernel
  have ek : un (k : Int) = k:=by have:=un_mod (k : Int); omega
  have hlt:=un_lt N;have ok : uok 0 (k : Int) = true:=by unfold uok; rw [e0,ek]; simp; omega
  have hq : u / k < 9223372036854775808:=by
    rw [Nat.div_lt_iff_lt_mul (by omega)];omega
  have hr : u % k < k:=Nat.mod_lt _ (by omega);refine ⟨?_,?_,?_⟩
  · unfold uq
    rw [if_pos ok,e0,ek,hu,Nat.zero_mul,Nat.zero_add];generalize u / k = q at hq ⊢;exact w64_id (by omega) (by omega)
  · unfold ur
    rw [if_pos ok,e0,ek,hu,Nat.zero_mul,Nat.zero_add];generalize u % k = r at hr ⊢;exact w64_id (by omega) (by omega)
  · unfold uc
    rw [if_neg (by omega),if_pos ok]
def Half (k u0 u : Nat) (m : Bool) (l : List UInt8) : Prop:=(m = true → usF k u0 = usF k u ++ l.reverse) ∧ (m = false → usF k u0 = l.reverse)
theorem Half.big {k u0 u : Nat} {l : List UInt8} (h : Half k u0 u true l) (h2 : 2 ≤ k) (hu : k ≤ u) : Half k u0 (u / k) true (l ++ [UInt8.ofNat (digN (u % k))]):=by
  refine ⟨fun _ => ?_,fun h => (by cases h)⟩;rw [h.1 rfl,usF_big h2 hu];simp
theorem Half.low {k u0 u : Nat} {l : List UInt8} (h : Half k u0 u true l) (h2 : 2 ≤ k) (hu : u < k) : Half k u0 (u / k) false (l ++ [UInt8.ofNat (digN (u % k))]):=by
  refine ⟨fun h => (by cases h),fun _ => ?_⟩;rw [h.1 rfl,usF_low hu,Nat.mod_eq_of_lt hu];simp
theorem Half.len {k u0 u : Nat} {m : Bool} {l : List UInt8} (h : Half k u0 u m l) (h2 : 2 ≤ k) (h0 : u0 < 18446744073709551616) : l.length ≤ 64:=by
  have hl:=us_le h2 63 u0 (by omega);cases m with
  | true => rw [h.1 rfl,List.length_append,List.length_reverse] at hl; omega
  | false => rw [h.2 rfl,List.length_reverse] at hl; omega
theorem byt_one (w : World) (x : UInt8) : Byt (w.alloc (.cells #[.int .u8 (x.toNat : Int)] 5)) (.slice (some ⟨w.heap.size,0,none⟩) 1 1) [x]:=byt_block (l:=[x]) (one_newN w _ _) (by simp)
theorem bown_app {w : World} {base : Nat} {v : Value} {l : List UInt8} {x : UInt8} (h : BOwns w base v (l.length + 1) (l ++ [x])) : BOwns w base v (l ++ [x]).length (l ++ [x]):=by
  have e : (l ++ [x]).length = l.length + 1:=by simp
  rw [e]; exact h
theorem ushow_any (n b : Int) (w : World) (h0 : -9223372036854775808 ≤ n) (h1 : n ≤ 9223372036854775807) :
    Calls Tryz.prog 140 #[.int .i64 n,.int .i64 b] w fun e w' => e = .returned (.tuple #[.string (strB (ushowF n b)),.int .i64 (showC b)]) ∧ Below w.heap.size w w':=by
  cases hb : baseB b with
  | false =>
    have H1 : Hid (strB (ushowF n b) = ⟨#[]⟩):=by show _ = _; unfold ushowF; rw [if_neg (by simp [hb])]; rfl
    have H2 : Hid (showC b = -24):=by show _ = _; unfold showC; rw [if_neg (by simp [hb])]
    rw [H1.out,H2.out];go_enter Tryz.func140,Tryz.ntmps140;(go_wp2_with fail);refine (isbase_any b _).mono ?_;rw [hb];rintro e w1 ⟨rfl,rfl⟩;go_wp2;go_ret2;exact ⟨rfl,Below.refl _ _⟩
  | true =>
    obtain ⟨b2,b36⟩:=(baseB_iff b).1 hb;obtain ⟨k,rfl⟩:=Int.eq_ofNat_of_zero_le (by omega : 0 ≤ b);have H1 : Hid (ushowF n (k : Int) = usF k (un n)):=by show _ = _; unfold ushowF; rw [if_pos hb,Int.toNat_natCast]
    have H2 : Hid (showC (k : Int) = 0):=by show _ = _; unfold showC; rw [if_pos hb]
    rw [H1.out,H2.out];have hul:=un_lt n;obtain ⟨u0,hu0⟩ : ∃ u0,un n = u0:=⟨_,rfl⟩;rw [hu0] at hul ⊢;have HU:=zqh hu0;have HUL:=zqh hul;have HK2 : Hid (2 ≤ k ∧ k ≤ 36):=by show _ ∧ _; omega
    clear H1 H2 hu0 hul b2 b36 h0 h1;go_enter Tryz.func140,Tryz.ntmps140;(go_wp2_with fail);refine (isbase_any _ _).mono ?_;rw [hb];rintro e w1 ⟨rfl,rfl⟩;clear hb;(go_wp2_with fail)
    go_loopw [0,6,7] (fun s0 s6 s7 wr => ∃ (N : Int) (u : Nat) (v : Value) (m : Bool) (l : List UInt8),s0 = .int .i64 N ∧ v = s6 ∧ s7 = .bool m ∧ Hid (un N = u) ∧ Hid (BOwns wr w.heap.size v l.length l) ∧ Hid (Below w.heap.size w wr) ∧ Hid (Half k u0 u m l)) (fun s0 _ s7 _ => measU s0 s7)
    case atStart => exact ⟨n,u0,_,true,[],rfl,rfl,rfl,HU,zqh (bowns_none _ _),zqh (Below.refl _ _),zqh ⟨fun _ => by simp,fun h => by cases h⟩⟩
    case round =>
      obtain ⟨N,u,v,m,l,rfl,hv0,rfl,HN,HO,HB,HH⟩:=hrel;subst hv0;cases m with
      | true =>
        have hkk:=HK2.out;have hF:=udiv_facts N u k HN.out HK2.out.1 HK2.out.2;have HD : Hid (∀ w,Calls Tryz.prog 92 #[.int .i64 N,.int .i64 0,.int .i64 (k : Int)] w fun e w' => e = .returned (.tuple #[.int .i64 ((u / k : Nat) : Int),.int .i64 ((u % k : Nat) : Int),.int .i64 0]) ∧ Below w.heap.size w w'):=by
          show ∀ _,_;intro w;have:=udiv_any N 0 (k : Int) w (by unfold cellR; omega);rw [hF.1,hF.2.1,hF.2.2] at this;exact this
        have hll:=HH.out.len HK2.out.1 HUL.out;have HQ : Hid ((u / k = 0 ↔ u < k) ∧ u / k < 9223372036854775808 ∧ (k ≤ u → u / k < u)):=by
          have:=un_lt N;have hn:=HN.out;refine ⟨Nat.div_eq_zero_iff_lt (by omega),?_,fun h => Nat.div_lt_self (by omega) (by omega)⟩;rw [Nat.div_lt_iff_lt_mul (by omega)];omega
        have HX : Hid (digF ((u % k : Nat) : Int) = ((UInt8.ofNat (digN (u % k))).toNat : Int)):=dig_u8 _;obtain ⟨q,hq⟩ : ∃ q,u / k = q:=⟨_,rfl⟩;obtain ⟨r,hr⟩ : ∃ r,u % k = r:=⟨_,rfl⟩;obtain ⟨x,hx⟩ : ∃ x,UInt8.ofNat (digN r) = x:=⟨_,rfl⟩;have HBIG : Hid (k ≤ u → Half k u0 q true (l ++ [x])):=fun h => by have:=HH.out.big HK2.out.1 h; rw [hq,hr,hx] at this; exact this
        have HLOW : Hid (u < k → Half k u0 q false (l ++ [x])):=fun h => by have:=HH.out.low HK2.out.1 h; rw [hq,hr,hx] at this; exact this
        rw [hq,hr] at HD;rw [hr,hx] at HX;rw [hq] at HQ;have HUQ : Hid (un (q : Int) = q):=by show _ = _; have:=un_mod (q : Int); have:=HQ.out.2.1; omega
        have HLL:=zqh hll;clear hF hq hr hx hll hkk
        by_cases h : q = 0
        · have hH:=HLOW.out (HQ.out.1.1 h)
          have HH2:=zqh hH;have hm : measU (.int .i64 N) (.bool true) = u + 1:=by unfold measU intOf; rw [HN.out]
          have HM:=zqh hm;subst h;clear HBIG HLOW HQ hH hm HH;(go_wp2_with fail);refine (HD.out _).mono ?_;rintro e w2 ⟨rfl,bb⟩;have B2:=zqh (below_then HB.out bb);have O2:=zqh (HO.out.keep bb);clear bb;(go_wp2_with fail);refine (digit_any _ _).mono ?_;rw [HX.out];rintro e w3 ⟨rfl,bb⟩;have B3:=zqh (below_then B2.out bb);have O3:=zqh (O2.out.keep bb);clear bb;(go_wp2_with ((at_builtin; (refine wpList_bapp rfl _ _ rfl w.heap.size v l.length l rfl (O3.out.alloc _) (some ⟨w3.heap.size,0,none⟩) 1 1 [x] rfl (byt_one w3 x) (by have:=HLL.out; omega) (by have:=B3.out.size; simp; omega) w (alloc_then B3.out) (Nat.le_refl _) ?_; intro v2 w4 ho hb2 hgr; have O4:=zqh (bown_app ho); have B4:=zqh hb2; clear ho hb2 hgr))))
          go_roundw
          case rel => exact ⟨0,0,v2,false,l ++ [x],rfl,rfl,rfl,HUQ,O4,B4,HH2⟩
          case measure => rw [HM.out]; simp [measU]
        · have hku : k ≤ u:=by have:=HQ.out.1; omega
          have HH2:=zqh (HBIG.out hku);have HLT:=zqh (HQ.out.2.2 hku);have HM : Hid (measU (.int .i64 N) (.bool true) = u + 1):=by show _ = _; unfold measU intOf; rw [HN.out]
          have hq0 : ((q : Int) == 0) = false:=by simp; omega
          have hq1 : ((q : Int) != 0) = true:=by rw [bne,hq0]; rfl
          have hq2 : ¬ (q : Int) = 0:=by omega
          clear HBIG HLOW HQ hku HH;(go_wp2_with fail);refine (HD.out _).mono ?_;rintro e w2 ⟨rfl,bb⟩;have B2:=zqh (below_then HB.out bb);have O2:=zqh (HO.out.keep bb);clear bb;(go_wp2_with fail);refine (digit_any _ _).mono ?_;rw [HX.out];rintro e w3 ⟨rfl,bb⟩;have B3:=zqh (below_then B2.out bb);have O3:=zqh (O2.out.keep bb);clear bb;(go_wp2_with ((at_builtin; (refine wpList_bapp rfl _ _ rfl w.heap.size v l.length l rfl (O3.out.alloc _) (some ⟨w3.heap.size,0,none⟩) 1 1 [x] rfl (byt_one w3 x) (by have:=HLL.out; omega) (by have:=B3.out.size; simp; omega) w (alloc_then B3.out) (Nat.le_refl _) ?_; intro v2 w4 ho hb2 hgr; have O4:=zqh (bown_app ho); have B4:=zqh hb2; clear ho hb2 hgr))))
          go_roundw
          case rel => exact ⟨(q : Int),q,v2,true,l ++ [x],rfl,rfl,rfl,HUQ,O4,B4,HH2⟩
          case measure => rw [HM.out]; have:=HLT.out; simp [measU,intOf,HUQ.out]; omega
      | false =>
        have he:=HH.out.2 rfl;have hne : l ≠ []:=by
          intro e;rw [e] at he;exact us_ne he
        have HLL:=zqh (HH.out.len HK2.out.1 HUL.out);have HE:=zqh he;have hrn : l.reverse ≠ []:=by simpa using hne
        clear HH he;have HR:=zqh (rev_own wr w.heap.size l.length v l HO.out hne (by have:=HLL.out; omega));(go_wp2_with fail);refine (HR.out).mono ?_;rintro e w2 ⟨rfl,hby,hbb⟩;have B2:=zqh (hbb w HB.out (Nat.le_refl _));have cv:=conv_row hby hrn;clear hbb hby hrn hne;(go_wp2_with fail);go_ret2;exact ⟨by rw [HE.out]; rfl,B2.out⟩
theorem show_any (n b : Int) (w : World) (h0 : -9223372036854775808 ≤ n) (h1 : n ≤ 9223372036854775807) :
    Calls Tryz.prog 139 #[.int .i64 n,.int .i64 b] w fun e w' => e = .returned (.tuple #[.string (strB (showF n b)),.int .i64 (showC b)]) ∧ Below w.heap.size w w':=by
  by_cases hn : 0 ≤ n
  · have H : Hid (ushowF n b = showF n b):=by
      show _ = _;unfold ushowF showF;have e : un n = n.toNat:=by have:=un_mod n; omega
      rw [if_pos hn,e]
    have HU:=zqh (ushow_any n b w h0 h1);clear h0 h1;go_enter Tryz.func139,Tryz.ntmps139;(go_wp2_with fail);refine (HU.out).mono ?_;rw [H.out];rintro e w1 ⟨rfl,hb⟩;go_wp2;go_ret2;exact ⟨rfl,hb⟩
  · have hn' : decide (0 ≤ n) = false:=by simp; omega
    have HU:=zqh (ushow_any (wrap64 (-n)) b w (by unfold wrap64; omega) (by unfold wrap64; omega));cases hb : baseB b with
    | false =>
      have H : Hid (ushowF (wrap64 (-n)) b = [] ∧ showF n b = []):=by
        constructor
        · unfold ushowF; rw [if_neg (by simp [hb])]
        · unfold showF; rw [if_neg (by simp [hb])]
      have HC : Hid (showC b = -24):=by show _ = _; unfold showC; rw [if_neg (by simp [hb])]
      have HE : Hid (strB [] = ⟨#[]⟩):=rfl;rw [H.out.2,HC.out,HE.out];clear hn hb h0 h1;go_enter Tryz.func139,Tryz.ntmps139;(go_wp2_with fail);refine (HU.out).mono ?_;rw [HC.out];rintro e w1 ⟨rfl,hb⟩;go_wp2;go_ret2;exact ⟨rfl,hb⟩
    | true =>
      have H : Hid (showF n b = 45 :: ushowF (wrap64 (-n)) b):=by
        show _ = _;unfold ushowF showF;have e : un (wrap64 (-n)) = (-n).toNat:=by have:=un_mod (wrap64 (-n)); unfold wrap64 at this ⊢; omega
        rw [if_pos hb,if_pos hb,if_neg hn,e]
      have HC : Hid (showC b = 0):=by show _ = _; unfold showC; rw [if_pos hb]
      obtain ⟨l,hl⟩ : ∃ l,ushowF (wrap64 (-n)) b = l:=⟨_,rfl⟩;rw [hl] at H;have HL:=zqh hl;have hap : (⟨#[45]⟩ : ByteArray) ++ strB l = strB (45 :: l):=strB_app [45] l;have hll : l.length ≤ 64:=by rw [← hl]; exact ushow_len _ _
      have hsz : (strB l).size ≤ 64:=hll;have hcat : ¬ (9223372036854775807 < 1 + (strB l).size):=by omega
      rw [H.out,HC.out];clear hn hb hl H h0 h1;go_enter Tryz.func139,Tryz.ntmps139;(go_wp2_with fail);refine (HU.out).mono ?_;rw [HC.out,HL.out];rintro e w1 ⟨rfl,hb⟩;go_wp2;go_ret2;exact ⟨rfl,hb⟩
end Go.Proofs.YtlgnijhemfkflaaGreatDoor

namespace Go.Proofs.YtlgnijhemfkflaaGreatDoor
open Go.RowKit


structure DInv (lo hi d j q r : Nat) : Prop where
  le : j ≤ 64
  eq : hi * 2 ^ (64 - j) + lo / 2 ^ j = d * q + r
  r_lt : r < d
  q_lt : q < 2 ^ (64 - j)
theorem DInv.first (lo hi d : Nat) (hl : lo < 18446744073709551616) (h : hi < d) : DInv lo hi d 64 0 hi:=by
  refine ⟨by omega,?_,h,by simp⟩;have : lo / 2 ^ 64 = 0:=Nat.div_eq_of_lt (by simpa using hl);rw [this];simp
theorem DInv.last {lo hi d q r : Nat} (I : DInv lo hi d 0 q r) : (hi * 18446744073709551616 + lo) / d = q ∧ (hi * 18446744073709551616 + lo) % d = r:=by
  have h2:=I.eq;have h3:=I.r_lt;simp only [Nat.sub_zero,Nat.pow_zero,Nat.div_one,Nat.reducePow] at h2;rw [h2];exact ⟨by rw [Nat.mul_add_div (by omega),Nat.div_eq_of_lt h3,Nat.add_zero],by rw [Nat.mul_add_mod,Nat.mod_eq_of_lt h3]⟩
end Go.Proofs.YtlgnijhemfkflaaGreatDoor

namespace Go.Proofs.YtlgnijhemfkflaaGreatDoor
open Go.RowKit


structure PartsOf (lo hi d : Int) (pl ph D : Nat) : Prop where
  low : (pr lo hi).natAbs % 18446744073709551616 = pl
  high : (pr lo hi).natAbs / 18446744073709551616 = ph
  size : d.natAbs = D
theorem PartsOf.quo {lo hi d : Int} {pl ph D : Nat} (h : PartsOf lo hi d pl ph D) : ph * 18446744073709551616 + pl = (pr lo hi).natAbs:=by
  have:=pair_abs lo hi; rw [h.low,h.high] at this; exact this
theorem PartsOf.pl_lt {lo hi d : Int} {pl ph D : Nat} (h : PartsOf lo hi d pl ph D) : pl < 18446744073709551616:=by have:=h.low; omega
theorem PartsOf.d_le {lo hi d : Int} {pl ph D : Nat} (h : PartsOf lo hi d pl ph D) (hd : cellR d) : D ≤ 9223372036854775808:=by have:=h.size; unfold cellR at hd; omega
theorem sdiv_no {lo hi d : Int} (h0 : d ≠ 0) (hk : sok lo hi d = false) : (0 : Int) = sq lo hi d ∧ (0 : Int) = sr lo hi d ∧ (-11 : Int) = sc lo hi d:=by
  simp [sq,sr,sc,hk,h0]
theorem sdiv_zero (lo hi : Int) : (0 : Int) = sq lo hi 0 ∧ (0 : Int) = sr lo hi 0 ∧ (-10 : Int) = sc lo hi 0:=by
  simp [sq,sr,sc,sok]
theorem sdiv_yes {lo hi d x y : Int} (h0 : d ≠ 0) (hk : sok lo hi d = true) (hx : (pr lo hi).tdiv d = x) (hy : (pr lo hi).tmod d = y) : x = sq lo hi d ∧ y = sr lo hi d ∧ (0 : Int) = sc lo hi d:=by
  simp [sq,sr,sc,hk,h0,hx,hy]
theorem rest_neg (lo hi d : Int) (R : Nat) (h : hi < 0) (hR : (pr lo hi).natAbs % d.natAbs = R) : (pr lo hi).tmod d = -(R : Int):=by
  rw [tmod_sign,if_pos (pr_neg lo hi h),hR]
theorem rest_pos (lo hi d : Int) (R : Nat) (h : ¬ hi < 0) (hR : (pr lo hi).natAbs % d.natAbs = R) : (pr lo hi).tmod d = (R : Int):=by
  rw [tmod_sign,if_neg (by have:=pr_nonneg lo hi (by omega); omega),hR]
theorem sdiv_any (lo hi d : Int) (w : World) (hh : cellR hi) (hd : cellR d) :
    Calls Tryz.prog 94 #[.int .i64 lo,.int .i64 hi,.int .i64 d] w fun e w' => e = .returned (.tuple #[.int .i64 (sq lo hi d),.int .i64 (sr lo hi d),.int .i64 (sc lo hi d)]) ∧ Below w.heap.size w w':=by
  obtain ⟨pl,ph,D,hP⟩ : ∃ pl ph D : Nat,Hid (PartsOf lo hi d pl ph D):=⟨_,_,_,zqh ⟨rfl,rfl,rfl⟩⟩;have cp : ∀ w,Calls Tryz.prog 211 #[.int .i64 lo,.int .i64 hi] w fun e w' => e = .returned (.tuple #[.int .u64 (pl : Int),.int .u64 (ph : Int)]) ∧ w = w':=by
    intro w; have:=pairSize_any lo hi w hh; rw [hP.out.low,hP.out.high] at this; exact this
  have cs : ∀ w,Calls Tryz.prog 212 #[.int .i64 d] w fun e w' => e = .returned (.int .u64 (D : Int)) ∧ w = w':=by
    intro w; have:=size_any d w hd; rw [hP.out.size] at this; exact this
  have hD:=hP.out.d_le hd;clear hh;have CP:=zqh cp;have CS:=zqh cs;clear cp cs
  by_cases h0 : d = 0
  · have hD0 : D = 0:=by have:=hP.out.size; omega
    subst h0;subst hD0;have H:=zqh (sdiv_zero lo hi);go_enter Tryz.func94,Tryz.ntmps94;(go_wp2_with (first | (go_at_call 211; refine (CP.out _).mono ?_; rintro e w1 ⟨rfl,rfl⟩) | (go_at_call 212; refine (CS.out _).mono ?_; rintro e w1 ⟨rfl,rfl⟩) | (go_at_call 210; refine (divide_zero _ _ _).mono ?_; rintro e w1 ⟨rfl,hb⟩)))
    go_ret3
    exact ⟨ret_three H.out.1 H.out.2.1 H.out.2.2,hb⟩
  · have hS:=zqh (sok_of lo hi d h0)
    have hDp : 0 < D:=by have:=hP.out.size; omega
    by_cases hr : D ≤ ph
    · have hk:=hS.out.1 (by rw [hP.out.high,hP.out.size]; exact hr)
      have H:=zqh (sdiv_no h0 hk);clear hk;go_enter Tryz.func94,Tryz.ntmps94;(go_wp2_with (first | (go_at_call 211; refine (CP.out _).mono ?_; rintro e w1 ⟨rfl,rfl⟩) | (go_at_call 212; refine (CS.out _).mono ?_; rintro e w1 ⟨rfl,rfl⟩) | (go_at_call 210; refine (divide_range _ _ _ _ hr hDp).mono ?_; rintro e w1 ⟨rfl,hb⟩)))
      go_ret3
      exact ⟨ret_three H.out.1 H.out.2.1 H.out.2.2,hb⟩
    · have hr' : ph < D:=by omega
      obtain ⟨Q,R,hQ,hR⟩ : ∃ Q R : Nat,Hid ((pr lo hi).natAbs / d.natAbs = Q) ∧ Hid ((pr lo hi).natAbs % d.natAbs = R):=⟨_,_,zqh rfl,zqh rfl⟩;have cd : Hid (∀ w,Calls Tryz.prog 210 #[.int .u64 (pl : Int),.int .u64 (ph : Int),.int .u64 (D : Int)] w fun e w' => e = .returned (.tuple #[.int .u64 (Q : Int),.int .u64 (R : Int),.int .i64 0]) ∧ Below w.heap.size w w') :=
        zqh fun w => divide_ok pl ph D Q R w hr' hP.out.pl_lt (by omega) (zqh (by rw [hP.out.quo,← hP.out.size]; exact hQ.out)) (zqh (by rw [hP.out.quo,← hP.out.size]; exact hR.out))
      have hRl : R < D:=by have:=hR.out; rw [hP.out.size] at this; rw [← this]; exact Nat.mod_lt _ hDp
      rw [hQ.out] at hS
      by_cases h1 : hi < 0 <;> by_cases h2 : d < 0
      · have c1 : decide (hi < 0) = true:=by simpa using h1
        have c2 : decide (d < 0) = true:=by simpa using h2
        by_cases hq : Q ≤ 9223372036854775807
        · have hk:=hS.out.2.2.2.1 (by simp [h1,h2]) hq
          have H:=zqh (sdiv_yes h0 hk.1 hk.2 (rest_neg lo hi d R h1 hR.out));clear hk;go_enter Tryz.func94,Tryz.ntmps94;(go_wp2_with (first | (go_at_call 211; refine (CP.out _).mono ?_; rintro e w1 ⟨rfl,rfl⟩) | (go_at_call 212; refine (CS.out _).mono ?_; rintro e w1 ⟨rfl,rfl⟩) | (go_at_call 210; refine (cd.out _).mono ?_; rintro e w1 ⟨rfl,hb⟩) | (go_at_call 213; ((with_reducible refine (signed_above Q hq _).mono ?_); rintro e w2 ⟨rfl,rfl⟩)) | (go_at_call 213; ((with_reducible refine (signed_below R (by omega) _).mono ?_); rintro e w2 ⟨rfl,rfl⟩))))
          go_ret3
          exact ⟨ret_three H.out.1 H.out.2.1 H.out.2.2,hb⟩
        · have hk:=hS.out.2.2.2.2 (by simp [h1,h2]) (by omega)
          have H:=zqh (sdiv_no h0 hk);clear hk;go_enter Tryz.func94,Tryz.ntmps94;(go_wp2_with (first | (go_at_call 211; refine (CP.out _).mono ?_; rintro e w1 ⟨rfl,rfl⟩) | (go_at_call 212; refine (CS.out _).mono ?_; rintro e w1 ⟨rfl,rfl⟩) | (go_at_call 210; refine (cd.out _).mono ?_; rintro e w1 ⟨rfl,hb⟩) | (go_at_call 213; ((with_reducible refine (signed_above_no Q (by omega) _).mono ?_); rintro e w2 ⟨rfl,rfl⟩))))
          go_ret3
          exact ⟨ret_three H.out.1 H.out.2.1 H.out.2.2,hb⟩
      · have c1 : decide (hi < 0) = true:=by simpa using h1
        have c2 : decide (d < 0) = false:=by simpa using h2
        by_cases hq : Q ≤ 9223372036854775808
        · have hk:=hS.out.2.1 (by simp [h1,h2]) hq
          have H:=zqh (sdiv_yes h0 hk.1 hk.2 (rest_neg lo hi d R h1 hR.out));clear hk;go_enter Tryz.func94,Tryz.ntmps94;(go_wp2_with (first | (go_at_call 211; refine (CP.out _).mono ?_; rintro e w1 ⟨rfl,rfl⟩) | (go_at_call 212; refine (CS.out _).mono ?_; rintro e w1 ⟨rfl,rfl⟩) | (go_at_call 210; refine (cd.out _).mono ?_; rintro e w1 ⟨rfl,hb⟩) | (go_at_call 213; ((with_reducible refine (signed_below Q hq _).mono ?_); rintro e w2 ⟨rfl,rfl⟩)) | (go_at_call 213; ((with_reducible refine (signed_below R (by omega) _).mono ?_); rintro e w2 ⟨rfl,rfl⟩))))
          go_ret3
          exact ⟨ret_three H.out.1 H.out.2.1 H.out.2.2,hb⟩
        · have hk:=hS.out.2.2.1 (by simp [h1,h2]) (by omega)
          have H:=zqh (sdiv_no h0 hk);clear hk;go_enter Tryz.func94,Tryz.ntmps94;(go_wp2_with (first | (go_at_call 211; refine (CP.out _).mono ?_; rintro e w1 ⟨rfl,rfl⟩) | (go_at_call 212; refine (CS.out _).mono ?_; rintro e w1 ⟨rfl,rfl⟩) | (go_at_call 210; refine (cd.out _).mono ?_; rintro e w1 ⟨rfl,hb⟩) | (go_at_call 213; ((with_reducible refine (signed_below_no Q (by omega) _).mono ?_); rintro e w2 ⟨rfl,rfl⟩))))
          go_ret3
          exact ⟨ret_three H.out.1 H.out.2.1 H.out.2.2,hb⟩
      · have c1 : decide (hi < 0) = false:=by simpa using h1
        have c2 : decide (d < 0) = true:=by simpa using h2
        by_cases hq : Q ≤ 9223372036854775808
        · have hk:=hS.out.2.1 (by simp [h1,h2]) hq
          have H:=zqh (sdiv_yes h0 hk.1 hk.2 (rest_pos lo hi d R h1 hR.out));clear hk;go_enter Tryz.func94,Tryz.ntmps94;(go_wp2_with (first | (go_at_call 211; refine (CP.out _).mono ?_; rintro e w1 ⟨rfl,rfl⟩) | (go_at_call 212; refine (CS.out _).mono ?_; rintro e w1 ⟨rfl,rfl⟩) | (go_at_call 210; refine (cd.out _).mono ?_; rintro e w1 ⟨rfl,hb⟩) | (go_at_call 213; ((with_reducible refine (signed_below Q hq _).mono ?_); rintro e w2 ⟨rfl,rfl⟩)) | (go_at_call 213; ((with_reducible refine (signed_above R (by omega) _).mono ?_); rintro e w2 ⟨rfl,rfl⟩))))
          go_ret3
          exact ⟨ret_three H.out.1 H.out.2.1 H.out.2.2,hb⟩
        · have hk:=hS.out.2.2.1 (by simp [h1,h2]) (by omega)
          have H:=zqh (sdiv_no h0 hk);clear hk;go_enter Tryz.func94,Tryz.ntmps94;(go_wp2_with (first | (go_at_call 211; refine (CP.out _).mono ?_; rintro e w1 ⟨rfl,rfl⟩) | (go_at_call 212; refine (CS.out _).mono ?_; rintro e w1 ⟨rfl,rfl⟩) | (go_at_call 210; refine (cd.out _).mono ?_; rintro e w1 ⟨rfl,hb⟩) | (go_at_call 213; ((with_reducible refine (signed_below_no Q (by omega) _).mono ?_); rintro e w2 ⟨rfl,rfl⟩))))
          go_ret3
          exact ⟨ret_three H.out.1 H.out.2.1 H.out.2.2,hb⟩
      · have c1 : decide (hi < 0) = false:=by simpa using h1
        have c2 : decide (d < 0) = false:=by simpa using h2
        by_cases hq : Q ≤ 9223372036854775807
        · have hk:=hS.out.2.2.2.1 (by simp [h1,h2]) hq
          have H:=zqh (sdiv_yes h0 hk.1 hk.2 (rest_pos lo hi d R h1 hR.out));clear hk;go_enter Tryz.func94,Tryz.ntmps94;(go_wp2_with (first | (go_at_call 211; refine (CP.out _).mono ?_; rintro e w1 ⟨rfl,rfl⟩) | (go_at_call 212; refine (CS.out _).mono ?_; rintro e w1 ⟨rfl,rfl⟩) | (go_at_call 210; refine (cd.out _).mono ?_; rintro e w1 ⟨rfl,hb⟩) | (go_at_call 213; ((with_reducible refine (signed_above Q hq _).mono ?_); rintro e w2 ⟨rfl,rfl⟩)) | (go_at_call 213; ((with_reducible refine (signed_above R (by omega) _).mono ?_); rintro e w2 ⟨rfl,rfl⟩))))
          go_ret3
          exact ⟨ret_three H.out.1 H.out.2.1 H.out.2.2,hb⟩
        · have hk:=hS.out.2.2.2.2 (by simp [h1,h2]) (by omega)
          have H:=zqh (sdiv_no h0 hk);clear hk;go_enter Tryz.func94,Tryz.ntmps94;(go_wp2_with (first | (go_at_call 211; refine (CP.out _).mono ?_; rintro e w1 ⟨rfl,rfl⟩) | (go_at_call 212; refine (CS.out _).mono ?_; rintro e w1 ⟨rfl,rfl⟩) | (go_at_call 210; refine (cd.out _).mono ?_; rintro e w1 ⟨rfl,hb⟩) | (go_at_call 213; ((with_reducible refine (signed_above_no Q (by omega) _).mono ?_); rintro e w2 ⟨rfl,rfl⟩))))
          go_ret3
          exact ⟨ret_three H.out.1 H.out.2.1 H.out.2.2,hb⟩
theorem sok_cell {lo hi d : Int} (h : sok lo hi d = true) : d ≠ 0 ∧ cellR (sq lo hi d):=by
  have h':=h;unfold sok at h;simp only [Bool.and_eq_true,bne_iff_ne,decide_eq_true_eq] at h;refine ⟨h.1.1,?_⟩;unfold sq cellR;rw [if_pos h'];omega
theorem fdiv_any (lo hi d : Int) (w : World) (hh : cellR hi) (hd : cellR d) :
    Calls Tryz.prog 95 #[.int .i64 lo,.int .i64 hi,.int .i64 d] w fun e w' => e = .returned (.tuple #[.int .i64 (fq lo hi d),.int .i64 (fr lo hi d),.int .i64 (fc lo hi d)]) ∧ Below w.heap.size w w':=by
  have cs:=sdiv_any lo hi d w hh hd;clear hh;cases hk : sok lo hi d
  · obtain ⟨c,hc,hn⟩ : ∃ c : Int,Hid (sc lo hi d = c ∧ fc lo hi d = c) ∧ (c != 0) = true:=by
      by_cases h0 : d = 0
      · exact ⟨-10,zqh (by simp [sc,fc,h0]),rfl⟩
      · exact ⟨-11,zqh (by simp [sc,fc,fok,h0,hk]),rfl⟩
    have e1 : sq lo hi d = 0:=by simp [sq,hk]
    have e2 : sr lo hi d = 0:=by simp [sr,hk]
    rw [e1,e2,hc.out.1] at cs;have H:=zqh hk;clear e1 e2 hk hd;go_enter Tryz.func95,Tryz.ntmps95;(go_wp2_with (go_at_call 94; refine cs.mono ?_; rintro e w1 ⟨rfl,hb⟩))
    go_ret3
    exact ⟨ret_three (by simp [fq,fok,H.out]) (by simp [fr,fok,H.out]) hc.out.2.symm,hb⟩
  · obtain ⟨h0,hx⟩:=sok_cell hk
    have hy : sr lo hi d = (pr lo hi).tmod d:=by simp [sr,hk]
    have hc : sc lo hi d = 0:=by simp [sc,hk,h0]
    obtain ⟨x,ex⟩ : ∃ x,Hid (sq lo hi d = x):=⟨_,zqh rfl⟩;obtain ⟨y,ey⟩ : ∃ y,Hid (sr lo hi d = y):=⟨_,zqh rfl⟩;rw [ex.out,ey.out,hc] at cs;rw [ex.out] at hx;unfold cellR at hx;have H:=zqh hk;cases hl : leans y d
    · have HL:=zqh hl
      clear hy hc hk hd;go_enter Tryz.func95,Tryz.ntmps95;(go_wp2_with (first | (go_at_call 94; refine cs.mono ?_; rintro e w1 ⟨rfl,hb⟩) | (go_at_call 206; refine (leansUp_any _ _ _).mono ?_; rintro e w' ⟨rfl,rfl⟩)))
      go_ret3
      exact ⟨ret_three (by simp [fq,fok,H.out,ex.out,ey.out,HL.out]) (by simp [fr,fok,H.out,ey.out,HL.out]) (by simp [fc,fok,H.out,ey.out,HL.out,h0]),hb⟩
    · have HL:=zqh hl
      have hs : cellR (y + d):=by rw [← ey.out,hy]; exact leans_sum _ _ h0 hd (by rw [← hy,ey.out]; exact hl)
      unfold cellR at hs;clear hy hc hk hd
      by_cases hm : x = -9223372036854775808
      · have hm' : (x == -9223372036854775808) = true:=by simpa using hm
        have HM:=zqh hm;clear hm;go_enter Tryz.func95,Tryz.ntmps95;(go_wp2_with (first | (go_at_call 94; refine cs.mono ?_; rintro e w1 ⟨rfl,hb⟩) | (go_at_call 206; refine (leansUp_any _ _ _).mono ?_; rintro e w' ⟨rfl,rfl⟩)))
        go_ret3
        exact ⟨ret_three (by simp [fq,fok,H.out,ex.out,ey.out,HL.out,HM.out]) (by simp [fr,fok,H.out,ex.out,ey.out,HL.out,HM.out]) (by simp [fc,fok,H.out,ex.out,ey.out,HL.out,HM.out,h0]),hb⟩
      · have hm' : (x == -9223372036854775808) = false:=by simpa using hm
        have HM:=zqh hm';go_enter Tryz.func95,Tryz.ntmps95;(go_wp2_with (first | (go_at_call 94; refine cs.mono ?_; rintro e w1 ⟨rfl,hb⟩) | (go_at_call 206; refine (leansUp_any _ _ _).mono ?_; rintro e w' ⟨rfl,rfl⟩)))
        go_ret3
        exact ⟨ret_three (by simp [fq,fok,H.out,ex.out,ey.out,HL.out,HM.out]) (by simp [fr,fok,H.out,ex.out,ey.out,HL.out,HM.out]) (by simp [fc,fok,H.out,ex.out,ey.out,HL.out,HM.out,h0]),hb⟩
end Go.Proofs.YtlgnijhemfkflaaGreatDoor

namespace Go.Proofs.YtlgnijhemfkflaaGreatDoor
open Go.ChangeShapes Go.WideShapes Go.ChangeAt Go.RowKit Go.Joins Go.Deep


theorem Byt.slice {w : World} {v : Value} {l : List UInt8} (h : Byt w v l) : ∃ A n c,v = .slice A n c:=by
  obtain ⟨A,c,e,_⟩:=h;exact ⟨A,_,c,e⟩
theorem wf_i64 {n : Int} (h : (Lit.int .i64 n).wf = true) : -9223372036854775808 ≤ n ∧ n ≤ 9223372036854775807:=by
  simp only [Lit.wf,IntKind.min,IntKind.max,IntKind.signed,IntKind.bits,Bool.and_eq_true,decide_eq_true_eq] at h;simpa using h
theorem wf_u8 {n : Int} (h : (Lit.int .u8 n).wf = true) : 0 ≤ n ∧ n ≤ 255:=by
  simp only [Lit.wf,IntKind.min,IntKind.max,IntKind.signed,IntKind.bits,Bool.and_eq_true,decide_eq_true_eq] at h;simpa using h
theorem Byt.cap {w : World} {A : Option Addr} {n c : Nat} {l : List UInt8} (h : Byt w (.slice A n c) l) : n ≤ 9223372036854775807:=by
  obtain ⟨A',c',e,h1,h2,_⟩:=h;injection e with _ e _
  have h3 : maxLen ≤ 9223372036854775807:=by decide
  omega
section
variable {H : Type} {enc : TypeId × Value → H} {w : World}
end
end Go.Proofs.YtlgnijhemfkflaaGreatDoor

namespace Go.Proofs.YtlgnijhemfkflaaGreatDoor
open Go.RowKit


abbrev PBox (w : World) (b : Nat) (A : Option Addr) (n c : Nat) (o : Bool) : Prop:=Box w b (.slice A n c) (.bool o) 32
theorem pbox_new (w : World) (A : Option Addr) (n c : Nat) (o : Bool) : PBox (w.alloc (.cells #[.slice A n c,.bool o] 32)) w.heap.size A n c o:=box_new _ _ _ _
theorem conv_any {w : World} {A : Option Addr} {n c : Nat} {l : List UInt8} (h : Byt w (.slice A n c) l) : (convert 24 9 (.slice A n c)).run Tryz.prog w = .ok (.string (strB l)) w:=h.conv
theorem len_zero {l : List UInt8} (h : l.length = 0) : l = []:=List.eq_nil_of_length_eq_zero h
theorem al_two (w : World) (o o2 : Obj) : Below w.heap.size w ((w.alloc o).alloc o2):=alloc_then (al_one w o)
theorem BOwns.pset {w : World} {base n : Nat} {v : Value} {l : List UInt8} (h : BOwns w base v n l) {b : Nat} (hb : b < base) (x y : Value) : BOwns ((w.setCell ⟨b,0,none⟩ x).setCell ⟨b,1,none⟩ y) base v n l :=
  ownsRow_setCell_below (ownsRow_setCell_below h (a:=⟨b,0,none⟩) hb x) (a:=⟨b,1,none⟩) hb y
theorem below_pset {w0 w : World} {B : Nat} (h : Below B w0 w) {b : Nat} (hb : B ≤ b) (x y : Value) : Below B w0 ((w.setCell ⟨b,0,none⟩ x).setCell ⟨b,1,none⟩ y) :=
  (h.setCell (p:=⟨b,0,none⟩) hb x).setCell (p:=⟨b,1,none⟩) hb y
theorem PBox.put {w : World} {b : Nat} {A : Option Addr} {n c : Nat} {o : Bool} (h : PBox w b A n c o) (x y : Value) : Box ((w.setCell ⟨b,0,none⟩ x).setCell ⟨b,1,none⟩ y) b x y 32:=Box.put h x y
theorem byt_slice {w : World} {v : Value} {l : List UInt8} (h : Byt w v l) : ∃ A n c,v = .slice A n c:=by
  obtain ⟨A,c,e,_⟩:=h;exact ⟨A,_,c,e⟩
theorem byt_low (w : World) (x : Int) : Byt (w.alloc (.cells #[.int .u8 (x % 256)] 5)) (.slice (some ⟨w.heap.size,0,none⟩) 1 1) [byteI x]:=by
  have h:=byt_one w (byteI x);rw [byteI_nat] at h;exact h
theorem PBox.not_u8 {w : World} {b : Nat} {A : Option Addr} {n c : Nat} {o : Bool} (h : PBox w b A n c o) (k : Nat) (x : Int) : w.cell? ⟨b,k,none⟩ ≠ some (.int .u8 x):=by
  unfold PBox Box at h;intro e;simp only [World.cell?,h] at e
  match k,e with
  | 0,e => simp at e
  | 1,e => simp at e
  | k + 2,e => simp at e
theorem byt_pset {w : World} {v : Value} {l : List UInt8} (h : Byt w v l) {b : Nat} {A : Option Addr} {n c : Nat} {o : Bool} (hb : PBox w b A n c o) (x y : Value) : Byt ((w.setCell ⟨b,0,none⟩ x).setCell ⟨b,1,none⟩ y) v l:=by
  obtain ⟨A',c',h1,h2,h3,h4⟩:=h;refine ⟨A',c',h1,h2,h3,?_⟩
  rcases h4 with h | ⟨g,o',e,hg,hc⟩
  · exact .inl h
  · by_cases h0 : u8s l = []
    · exact .inl h0
    · have hne : g ≠ b:=by
        intro e2;subst e2;cases l with
        | nil => exact h0 rfl
        | cons z l => exact hb.not_u8 (o' + 0) (z.toNat : Int) (hc 0 (.int .u8 (z.toNat : Int)) rfl)
      refine .inr ⟨g,o',e,by simpa [World.setCell] using hg,fun j u hu => ?_⟩;rw [World.cell?_setCell_far _ _ _ _ (fun e => hne e.symm),World.cell?_setCell_far _ _ _ _ (fun e => hne e.symm)];exact hc j u hu
def PAt (b : Nat) (A : Option Addr) (n c : Nat) (o : Bool) (l : List UInt8) (w : World) : Prop:=PBox w b A n c o ∧ Byt w (.slice A n c) l
theorem PAt.keep {b : Nat} {A : Option Addr} {n c : Nat} {o : Bool} {l : List UInt8} {w w' : World} (h : PAt b A n c o l w) (k : Below w.heap.size w w') : PAt b A n c o l w':=⟨Box.keep h.1 k,h.2.keep k⟩
theorem PAt.use {b : Nat} {A : Option Addr} {n c : Nat} {o : Bool} {l : List UInt8} {w : World} (h : PAt b A n c o l w) : w.cell? ⟨b,0,none⟩ = some (.slice A n c) ∧ w.cell? ⟨b,1,none⟩ = some (.bool o):=⟨(Box.use h.1).1,(Box.use h.1).2.1⟩
theorem PAt.lt {b : Nat} {A : Option Addr} {n c : Nat} {o : Bool} {l : List UInt8} {w : World} (h : PAt b A n c o l w) : b < w.heap.size:=Box.lt h.1
theorem PAt.byt {b : Nat} {A : Option Addr} {n c : Nat} {o : Bool} {l : List UInt8} {w : World} (h : PAt b A n c o l w) : Byt w (.slice A n c) l:=h.2
theorem pat_new {A : Option Addr} {n c : Nat} {o : Bool} {l : List UInt8} {w : World} (h : Byt w (.slice A n c) l) : PAt w.heap.size A n c o l (w.alloc (.cells #[.slice A n c,.bool o] 32)):=⟨pbox_new w A n c o,h.keep (al_one _ _)⟩
theorem pat_set {b : Nat} {A A' : Option Addr} {n c n' c' : Nat} {o o' : Bool} {l : List UInt8} {w : World} (hx : PBox w b A n c o) (h : Byt w (.slice A' n' c') l) : PAt b A' n' c' o' l ((w.setCell ⟨b,0,none⟩ (.slice A' n' c')).setCell ⟨b,1,none⟩ (.bool o')):=⟨Box.put hx _ _,byt_pset h hx _ _⟩
theorem ppack {W w : World} {b : Nat} {A A' : Option Addr} {n c n' c' : Nat} {o o' : Bool} {l : List UInt8} (hx : PBox w b A n c o) (h : Byt w (.slice A' n' c') l) (B : Below W.heap.size W w) (hb : W.heap.size ≤ b) :
    ∃ wf,(w.setCell ⟨b,0,none⟩ (.slice A' n' c')).setCell ⟨b,1,none⟩ (.bool o') = wf ∧ Hid (PAt b A' n' c' o' l wf) ∧ Below W.heap.size W wf:=⟨_,rfl,zqh (pat_set hx h),below_pset B hb _ _⟩
theorem papack {W w : World} {A : Option Addr} {n c : Nat} {o : Bool} {l : List UInt8} (h : Byt w (.slice A n c) l) (B : Below W.heap.size W w) :
    ∃ wf,w.alloc (.cells #[.slice A n c,.bool o] 32) = wf ∧ Hid (PAt w.heap.size A n c o l wf) ∧ Below W.heap.size W wf:=⟨_,rfl,zqh (pat_new h),alloc_then B⟩
theorem pbox_far {w : World} {b b' : Nat} {A : Option Addr} {n c : Nat} {o : Bool} (h : PBox w b A n c o) (hne : b ≠ b') (x y : Value) : PBox ((w.setCell ⟨b',0,none⟩ x).setCell ⟨b',1,none⟩ y) b A n c o:=by
  unfold PBox Box at h ⊢;rw [Below.heap_setCell _ _ _ _ hne,Below.heap_setCell _ _ _ _ hne];exact h
end Go.Proofs.YtlgnijhemfkflaaGreatDoor
