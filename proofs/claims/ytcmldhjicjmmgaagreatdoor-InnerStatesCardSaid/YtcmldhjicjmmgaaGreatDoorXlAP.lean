/- Part 16. -/
import Derived.Test.YtcmldhjicjmmgaaGreatDoorXlAO
set_option linter.unusedVariables false
set_option linter.unusedSimpArgs false
set_option maxRecDepth 100000
set_option maxHeartbeats 4000000

namespace Go.Proofs.YtcmldhjicjmmgaaGreatDoor
open Go.RowKit


theorem write_yesp (A P A2 : Option Addr) (L c K d n c2 : Nat) (m : PM) (b : List UInt8) (p : Int) (w : World) (HM : Hid (IsMem w (.agg #[.slice A L c,.slice P K d]) m)) (HU : Hid (Byt w (.slice A2 n c2) b)) (hL : L ≤ 65536) (hK : K < 1000) (hn : n ≤ 65536) (hn0 : 0 < n) (ok : okB L p n = true) :
    Calls Tryz.prog 230 #[.agg #[.slice A L c,.slice P K d],.int .i64 p,.slice A2 n c2] w fun e w' => ∃ A' c' P' d',e = .returned (.tuple #[.agg #[.slice A' L c',.slice P' (K + 1) d'],.int .i64 0]) ∧ MemP P K w.heap.size w' (.agg #[.slice A' L c',.slice P' (K + 1) d']) (writeF m p b) ∧ Below w.heap.size w w':=by
  have hz : ((n : Int) == 0) = false:=by simp; omega
  go_enter Tryz.func230,Tryz.ntmps230;(go_wp2_with fail);refine (text_at _ _ _ _ _ _ m _ _ _ (HM.out.keep (((Below.refl _ w).alloc (Nat.le_refl _) _).alloc (by simp) _)) hL (by omega)).mono ?_;rw [ok,codeF_yes];rintro e w1 ⟨B,k,e',rfl,hu1,b1⟩;obtain ⟨k0,k1⟩:=box_two w (.slice A L c) (.slice P K d) (.slice none 0 0) (.slice none 0 0) 29 29;have K0:=zqh (k0.keep b1);have K1:=zqh (k1.keep b1);obtain ⟨q0,q1,_,_⟩:=(k0.keep b1).use;have HB:=zqh (below_two b1);have HT:=zqh hu1;clear k0 k1 b1 hu1;(go_wp2_with fail);refine (own_u8 _ _ _ m.1 _ HM.out.len1 hL (HM.out.keep HB.out).byt.lies).mono ?_;rintro e w2 ⟨g,rfl,hg,hh,b2⟩;clear q0 q1;have K2:=zqh (K0.out.keep b2);have K3:=zqh (K1.out.keep b2);have HG:=zqh hh;have HB2:=zqh b2;have hlt:=K1.out.lt;clear hh b2;(go_wp2_with fail);refine (lay_any g L n c2 A2 p m.1 b w2 5 HM.out.len1 HU.out.len hL ok HG.out ((HU.out.keep HB.out).keep HB2.out).lies).mono ?_;rintro e w3 ⟨rfl,hh,rs⟩;have hne0 : w.heap.size ≠ g:=by omega
  have hne1 : w.heap.size + 1 ≠ g:=by omega
  have K4:=zqh (K2.out.row rs hne0);have K5:=zqh (K3.out.row rs hne1);obtain ⟨q0,q1,_,_⟩:=(K2.out.row rs hne0).use;have HG3:=zqh hh;have RS:=zqh rs;clear hh rs;have hB3 : Below w.heap.size w w3:=(below_then HB.out HB2.out).trans (RS.out.below (by omega));have HB3:=zqh hB3;obtain ⟨qs,HQ,hlq,htl⟩ : ∃ qs : List Qt,Hid (qs.length = K) ∧ Lies w P (pc qs) ∧ Tells w qs m.2:=HM.out.patq;have HLQ:=zqh hlq;have HTQ:=zqh htl;clear hB3 hlq htl;(go_wp2_with fail);refine (with_any _ K _ qs _ _ _ _ _ HQ.out (by omega) (HLQ.out.keep HB3.out) (pc_one HTQ.out)).mono ?_;rintro e w4 ⟨g4,rfl,hg4,hh,b4⟩;obtain ⟨q2,q3,q4,q5⟩:=(K5.out.keep b4).use;have K6:=zqh (K5.out.keep b4);have HH:=zqh hh;have HB4:=zqh b4;clear hh b4 q0 q1;(go_wp2_with fail);refine bodyPost_ret (v:=.tuple #[.agg #[.slice (some ⟨g,0,none⟩) L L,.slice (some ⟨g4,0,none⟩) (K + 1) (K + 1)],.int .i64 0]) ?_ rfl ?_
  · obtain ⟨r0,r1⟩:=K6.out.got (.slice (some ⟨g,0,none⟩) L L) (.slice (some ⟨g4,0,none⟩) (K + 1) (K + 1))
    simp [results,Tryz.results230,go_sem,r0,r1]
  · refine ⟨_,_,_,_,rfl,?_,((HB3.out.trans (HB4.out.mono HB3.out.size)).setCell (by simp) _).setCell (by simp) _⟩
    refine memP_new (IsMem.row (w:=w4) ?_ K6.out (row_put _ _ _ _)) (Nat.le_trans HB3.out.size hg4);have ok' : okB m.1.length p b.length = true:=by rw [HM.out.len1,HU.out.len]; exact ok
    have hl : (layF m.1 p b).length = L:=(layF_len ok').trans HM.out.len1;have hb0 : b ≠ []:=by
      intro e;have:=HU.out.len;rw [e] at this;simp at this;omega
    have b24 : Below w1.heap.size w1 w4:=(HB2.out.trans (RS.out.below (by omega))).trans (HB4.out.mono (Nat.le_trans HB2.out.size (Nat.le_of_eq RS.out.size.symm)));rw [writeF_yes ok' hb0];refine mem_mk ?_ ?_
    · show Byt w4 _ (layF m.1 p b)
      rw [← hl];refine byt_block (t:=5) ?_ (by omega);rw [HB4.out.block g (by rw [RS.out.size]; exact (Array.getElem?_eq_some_iff.1 HG.out).1)];exact HG3.out
    · have e5 : (m.2 ++ [(p,textF m p b.length)]).length = K + 1:=by simp [HM.out.len2]
      refine ⟨some ⟨g4,0,none⟩,K + 1,qs ++ [(p,.slice B k e')],by rw [e5],by rw [e5]; exact Nat.le_refl _,by unfold maxLen; omega,lies_block HH.out,Tells.snoc (p:=(p,textF m p b.length)) (HTQ.out.keep (HB3.out.trans (HB4.out.mono HB3.out.size))) ?_⟩;have:=HT.out.keep b24;rw [HU.out.len];exact this
theorem write_slp {A P : Option Addr} {L c K d : Nat} {u : Value} (m : PM) (b : List UInt8) (p : Int) (w : World) (h : IsMem w (.agg #[.slice A L c,.slice P K d]) m) (hu : Byt w u b) (hL : m.1.length ≤ 65536) (hK : m.2.length < 1000) (hb : b.length ≤ 65536) :
    Calls Tryz.prog 230 #[.agg #[.slice A L c,.slice P K d],.int .i64 p,u] w fun e w' => ∃ A' L' c' P' K' d',e = .returned (.tuple #[.agg #[.slice A' L' c',.slice P' K' d'],.int .i64 (codeF (okB m.1.length p b.length))]) ∧ MemP P K w.heap.size w' (.agg #[.slice A' L' c',.slice P' K' d']) (writeF m p b) ∧ Below w.heap.size w w':=by
  have e1:=h.len1;have e2:=h.len2;obtain ⟨A2,c2,rfl⟩:=hu.form;rw [e1] at hL ⊢;rw [e2] at hK
  by_cases hn : okB L p b.length = false ∨ b.length = 0
  · refine (write_no A P A2 _ c _ d _ c2 m p w h hL hb hn).mono fun e w' ⟨he,hw⟩ => ⟨_,_,_,_,_,_,he,?_,hw⟩
    have e : writeF m p b = m:=by
      rcases hn with hn | hn
      · exact writeF_no (by rw [e1]; exact hn)
      · rw [List.eq_nil_of_length_eq_zero hn]; exact writeF_nil
    rw [e];exact memP_same (h.keep hw)
  · have ok : okB L p b.length = true:=by
      cases e : okB L p b.length with
      | true => rfl
      | false => exact absurd (.inl e) hn
    have hok:=(okB_iff _ _ _).1 ok;obtain ⟨q,rfl⟩:=Int.eq_ofNat_of_zero_le (by omega : 0 ≤ p);refine (write_yesp A P A2 _ c _ d _ c2 m b q w h hu hL hK hb (by omega) ok).mono fun e w' ⟨A',c',P',d',he,hm,hw⟩ => ?_
    skip
    refine ⟨_,_,_,_,_,_,?_,hm,hw⟩;rw [ok,codeF_yes];exact he
theorem store_atp (A P : Option Addr) (L c K d : Nat) (m : PM) (p n : Int) (w : World) (HM : Hid (IsMem w (.agg #[.slice A L c,.slice P K d]) m)) (hL : L ≤ 65536) (hK : K < 1000) :
    Calls Tryz.prog 146 #[.agg #[.slice A L c,.slice P K d],.int .i64 p,.int .i64 n] w fun e w' => ∃ A' L' c' P' K' d',e = .returned (.tuple #[.agg #[.slice A' L' c',.slice P' K' d'],.int .i64 (cellC L p)]) ∧ MemP P K w.heap.size w' (.agg #[.slice A' L' c',.slice P' K' d']) (storeF m p n) ∧ Below w.heap.size w w':=by
  obtain ⟨C,hC⟩ : ∃ C,cellC L p = C:=⟨_,rfl⟩
  by_cases h0 : C = 0
  · subst h0
    have HF : Hid (storeF m p n = writeF m p (cellBytes n)):=by unfold storeF; rw [if_pos (by rw [HM.out.len1]; exact hC)]; rfl
    have ok : okB m.1.length p (cellBytes n).length = true:=by rw [HM.out.len1,cellBytes_len]; exact store_ok hC
    have CW : Hid (∀ (w1 : World) (B : Option Addr) (k e : Nat),IsMem w1 (.agg #[.slice A L c,.slice P K d]) m → Byt w1 (.slice B k e) (cellBytes n) → Calls Tryz.prog 230 #[.agg #[.slice A L c,.slice P K d],.int .i64 p,.slice B k e] w1 fun e w' => ∃ A' L' c' P' K' d',e = .returned (.tuple #[.agg #[.slice A' L' c',.slice P' K' d'],.int .i64 0]) ∧ MemP P K w1.heap.size w' (.agg #[.slice A' L' c',.slice P' K' d']) (writeF m p (cellBytes n)) ∧ Below w1.heap.size w1 w'):=by
      intro w1 B k e hm hb;have:=write_slp m (cellBytes n) p w1 hm hb (by rw [HM.out.len1]; exact hL) (by rw [HM.out.len2]; exact hK) (by rw [cellBytes_len]; omega);rw [ok,codeF_yes] at this;exact this
    rw [HF.out,hC];have HC:=zqh hC;clear hC ok;go_enter Tryz.func146,Tryz.ntmps146;(go_wp2_with fail);refine (cellCode_any _ _ _ _ _ _ _ _ hL).mono ?_;rw [HC.out];rintro e w1 ⟨rfl,b1⟩;have F1:=fr_two b1;clear b1;(go_wp2_with fail);refine wp_region_noPanic ?_
    go_region_held (fun w' => w'.cell? ⟨w.heap.size,0,none⟩ = some (.slice A L c) ∧ w'.cell? ⟨w.heap.size,1,none⟩ = some (.slice P K d) ∧ Fw w A P L c K d w') (first | assumption | exact fwS F1.drew | exact fwP (by assumption) _ _ _ _ _ _)
      (first | (go_at_call 231; ((with_reducible refine (put_byt _ _).mono ?_); rintro e w2 ⟨B,k,e',rfl,hu2,b2⟩; have s2:=fwK (by assumption) b2)) | (go_at_call 230; ((with_reducible refine (CW.out _ _ _ _ (HM.out.keep s2.2.2.bel) hu2).mono ?_); rintro e w3 ⟨A',L',c',P',K',d',rfl,hm3,b3⟩; have s3:=fwK (by assumption) b3; obtain ⟨A0,n0,c0,P0,k0,d0,hres⟩:=s3.2.2.res; obtain ⟨q2,q3,q4,q5⟩:=hres.use)))
    all_goals (refine NoPanic.normal ?_)
    all_goals go_wp2
    all_goals refine bodyPost_ret (v:=.tuple #[.agg #[.slice A' L' c',.slice P' K' d'],.int .i64 0]) ?_ rfl ?_
    · obtain ⟨r0,r1⟩:=hres.got (.slice A' L' c') (.slice P' K' d')
      simp [results,Tryz.results146,go_sem,r0,r1]
    · exact ⟨_,_,_,_,_,_,rfl,hm3.row2 s2.2.2.bel.size hres (row_put _ _ _ _),(s3.2.2.bel.setCell (by simp) _).setCell (by simp) _⟩
  · have hF : storeF m p n = m:=by unfold storeF; rw [if_neg (by rw [HM.out.len1,hC]; exact h0)]
    rw [hF,hC];have HC:=zqh hC;have h0' : (C != 0) = true:=by simp [h0]
    clear hC hF h0;go_enter Tryz.func146,Tryz.ntmps146;(go_wp2_with fail);refine (cellCode_any _ _ _ _ _ _ _ _ hL).mono ?_;rw [HC.out];rintro e w1 ⟨rfl,b1⟩;have F1:=zqh (fr_two b1);obtain ⟨q0,q1,_,_⟩:=(fr_two b1).2.1.use;obtain ⟨q2,q3,q4,q5⟩:=(fr_two b1).2.2.use;clear b1;(go_wp2_with fail);refine bodyPost_ret (v:=.tuple #[.agg #[.slice A L c,.slice P K d],.int .i64 C]) ?_ rfl ?_
    · obtain ⟨r0,r1⟩:=F1.out.2.2.got (.slice A L c) (.slice P K d)
      simp [results,Tryz.results146,go_sem,r0,r1]
    · exact ⟨_,_,_,_,_,_,rfl,memP_same (F1.out.mem (HM.out.keep F1.out.1) _ _),F1.out.put _ _⟩
theorem storeByte_atp (A P : Option Addr) (L c K d : Nat) (m : PM) (p n : Int) (w : World) (HM : Hid (IsMem w (.agg #[.slice A L c,.slice P K d]) m)) (hL : L ≤ 65536) (hK : K < 1000) :
    Calls Tryz.prog 151 #[.agg #[.slice A L c,.slice P K d],.int .i64 p,.int .i64 n] w fun e w' => ∃ A' L' c' P' K' d',e = .returned (.tuple #[.agg #[.slice A' L' c',.slice P' K' d'],.int .i64 (codeF (okB L p 1))]) ∧ MemP P K w.heap.size w' (.agg #[.slice A' L' c',.slice P' K' d']) (writeF m p [lowB n]) ∧ Below w.heap.size w w':=by
  obtain ⟨x,hx⟩ : ∃ x,lowB n = x:=⟨_,rfl⟩;have h1 : n % 256 = (x.toNat : Int):=by rw [← hx]; exact (lowB_nat n).symm
  rw [hx];have hx2:=x.toNat_lt;obtain ⟨C,hC⟩ : ∃ C,codeF (okB L p 1) = C:=⟨_,rfl⟩;have HC:=zqh hC;rw [hC];clear hx hC;go_enter Tryz.func151,Tryz.ntmps151;(go_wp2_with fail);refine (write_slp m [x] _ _ (HM.out.keep ((fr_new w A P L c K d).bel.alloc (by simp; omega) _)) (byt_one3 w A P L c K d x) (by rw [HM.out.len1]; exact hL) (by rw [HM.out.len2]; exact hK) (by simp)).mono ?_;rw [HM.out.len1,show (([x] : List UInt8).length : Int) = 1 from rfl,HC.out];rintro e w3 ⟨A',L',c',P',K',d',rfl,hm3,b3⟩;have F3:=fr_two (box_below b3);have HF:=zqh F3;have HM3:=zqh hm3;obtain ⟨q2,q3,q4,q5⟩:=F3.2.2.use;clear F3 b3 hm3;(go_wp2_with fail);refine bodyPost_ret (v:=.tuple #[.agg #[.slice A' L' c',.slice P' K' d'],.int .i64 C]) ?_ rfl ?_
  · obtain ⟨r0,r1⟩:=HF.out.2.2.got (.slice A' L' c') (.slice P' K' d')
    simp [results,Tryz.results151,go_sem,r0,r1]
  · exact ⟨_,_,_,_,_,_,rfl,HM3.out.row2 (by simp; omega) HF.out.2.2 (row_put _ _ _ _),HF.out.put _ _⟩
theorem move_atp (A P : Option Addr) (L c K d : Nat) (m : PM) (f t n : Int) (w : World) (HM : Hid (IsMem w (.agg #[.slice A L c,.slice P K d]) m)) (hL : L ≤ 65536) (hK : K < 1000) (hn : n ≤ 9223372036854775807) :
    Calls Tryz.prog 159 #[.agg #[.slice A L c,.slice P K d],.int .i64 f,.int .i64 t,.int .i64 n] w fun e w' => ∃ A' L' c' P' K' d',e = .returned (.tuple #[.agg #[.slice A' L' c',.slice P' K' d'],.int .i64 (moveC m f t n)]) ∧ MemP P K w.heap.size w' (.agg #[.slice A' L' c',.slice P' K' d']) (moveF m f t n) ∧ Below w.heap.size w w':=by
  obtain ⟨C,hC⟩ : ∃ C,moveC m f t n = C:=⟨_,rfl⟩;cases ok : okB L f n with
  | false =>
    have okm : okB m.1.length f n = false:=by rw [HM.out.len1]; exact ok
    have hF : moveF m f t n = m:=by unfold moveF; rw [if_neg (by simp [okm])]
    have hC9 : moveC m f t n = -9:=by unfold moveC; rw [if_neg (by simp [okm])]
    rw [hF,hC9];clear hF hC9 hC okm;go_enter Tryz.func159,Tryz.ntmps159;(go_wp2_with fail);refine (text_at _ _ _ _ _ _ m _ _ _ (HM.out.keep (fr_new w A P L c K d).bel) hL hn).mono ?_;rw [ok,codeF_no];rintro e w1 ⟨B,k,e',rfl,hu1,b1⟩;have F1:=fr_two b1;have HF:=zqh F1;obtain ⟨q0,q1,_,_⟩:=F1.2.1.use;obtain ⟨q2,q3,q4,q5⟩:=F1.2.2.use;clear F1 b1 hu1;(go_wp2_with fail);refine bodyPost_ret (v:=.tuple #[.agg #[.slice A L c,.slice P K d],.int .i64 (-9)]) ?_ rfl ?_
    · obtain ⟨r0,r1⟩:=HF.out.2.2.got (.slice A L c) (.slice P K d)
      simp [results,Tryz.results159,go_sem,r0,r1]
    · exact ⟨_,_,_,_,_,_,rfl,memP_same (HF.out.mem (HM.out.keep HF.out.bel) _ _),HF.out.put _ _⟩
  | true =>
    have okm : okB m.1.length f n = true:=by rw [HM.out.len1]; exact ok
    have hok:=(okB_iff _ _ _).1 ok;have hF : moveF m f t n = writeF m t (textF m f n):=by unfold moveF; rw [if_pos okm]
    have hl : ((textF m f n).length : Int) = n:=by rw [textF_len okm]; omega
    have hC2 : codeF (okB m.1.length t ((textF m f n).length : Int)) = C:=by rw [hl,← hC]; unfold moveC; rw [if_pos okm]
    have HC:=zqh hC2;have HL : Hid ((textF m f n).length ≤ 65536):=by show _ ≤ _; omega
    rw [hF,hC];clear hC2 hF hC hl okm hok;go_enter Tryz.func159,Tryz.ntmps159;(go_wp2_with fail);refine (text_at _ _ _ _ _ _ m _ _ _ (HM.out.keep (fr_new w A P L c K d).bel) hL hn).mono ?_;rw [ok,codeF_yes];rintro e w1 ⟨B,k,e',rfl,hu1,b1⟩;have F1:=fr_two b1;have HF:=zqh F1;have HU:=zqh hu1;obtain ⟨q0,q1,_,_⟩:=F1.2.1.use;clear F1 b1 hu1;(go_wp2_with fail);refine (write_slp m (textF m f n) _ _ (HM.out.keep HF.out.bel) HU.out (by rw [HM.out.len1]; exact hL) (by rw [HM.out.len2]; exact hK) HL.out).mono ?_;rw [HC.out];rintro e w3 ⟨A',L',c',P',K',d',rfl,hm3,b3⟩;have F3:=HF.out.keep b3;have HF3:=zqh F3;have HM3:=zqh hm3;obtain ⟨q2,q3,q4,q5⟩:=F3.2.2.use;clear F3 b3 hm3 q0 q1;(go_wp2_with fail);refine bodyPost_ret (v:=.tuple #[.agg #[.slice A' L' c',.slice P' K' d'],.int .i64 C]) ?_ rfl ?_
    · obtain ⟨r0,r1⟩:=HF3.out.2.2.got (.slice A' L' c') (.slice P' K' d')
      simp [results,Tryz.results159,go_sem,r0,r1]
    · exact ⟨_,_,_,_,_,_,rfl,HM3.out.row2 HF.out.bel.size HF3.out.2.2 (row_put _ _ _ _),HF3.out.put _ _⟩
theorem fill_atp (A P : Option Addr) (L c K d : Nat) (m : PM) (p n b : Int) (w : World) (HM : Hid (IsMem w (.agg #[.slice A L c,.slice P K d]) m)) (hL : L ≤ 8192) (hK : K < 1000) (hn : n ≤ 9223372036854775807) :
    Calls Tryz.prog 157 #[.agg #[.slice A L c,.slice P K d],.int .i64 p,.int .i64 n,.int .i64 b] w fun e w' => ∃ A' L' c' P' K' d',e = .returned (.tuple #[.agg #[.slice A' L' c',.slice P' K' d'],.int .i64 (codeF (okB L p n))]) ∧ MemP P K w.heap.size w' (.agg #[.slice A' L' c',.slice P' K' d']) (fillF m p n b) ∧ Below w.heap.size w w':=by
  cases ok : okB L p n with
  | false =>
    have okm : okB m.1.length p n = false:=by rw [HM.out.len1]; exact ok
    rw [fill_no okm,codeF_no];clear okm;go_enter Tryz.func157,Tryz.ntmps157;(go_wp2_with fail);refine (there_any _ _ _ _ _ _ _ _ _ (by omega) hn).mono ?_;rw [ok];rintro e w1 ⟨rfl,b1⟩;have F1:=fr_two b1;have HF:=zqh F1;obtain ⟨q0,q1,_,_⟩:=F1.2.1.use;obtain ⟨q2,q3,q4,q5⟩:=F1.2.2.use;clear F1 b1;(go_wp2_with fail);refine bodyPost_ret (v:=.tuple #[.agg #[.slice A L c,.slice P K d],.int .i64 (-9)]) ?_ rfl ?_
    · obtain ⟨r0,r1⟩:=HF.out.2.2.got (.slice A L c) (.slice P K d)
      simp [results,Tryz.results157,go_sem,r0,r1]
    · exact ⟨_,_,_,_,_,_,rfl,memP_same (HF.out.mem (HM.out.keep HF.out.bel) _ _),HF.out.put _ _⟩
  | true =>
    have okm : okB m.1.length p n = true:=by rw [HM.out.len1]; exact ok
    have hok:=(okB_iff _ _ _).1 ok;rw [fill_yes okm,codeF_yes];obtain ⟨k,rfl⟩:=Int.eq_ofNat_of_zero_le (by omega : 0 ≤ n);have hk : k ≤ 8192:=by omega
    obtain ⟨x,hx⟩ : ∃ x,lowB b = x:=⟨_,rfl⟩;have h1 : b % 256 = (x.toNat : Int):=by rw [← hx]; exact (lowB_nat b).symm
    have h2 : IntKind.u8.wrap b = (x.toNat : Int):=by rw [IntKind.wrap_u8]; exact h1
    rw [hx,Int.toNat_natCast];have hx2:=x.toNat_lt;have ok2 : okB m.1.length p ((List.replicate k x).length : Int) = true:=by rw [List.length_replicate]; exact okm
    have CW : Hid (∀ (w1 : World) (B : Option Addr) (k' e : Nat),IsMem w1 (.agg #[.slice A L c,.slice P K d]) m → Byt w1 (.slice B k' e) (List.replicate k x) → Calls Tryz.prog 230 #[.agg #[.slice A L c,.slice P K d],.int .i64 p,.slice B k' e] w1 fun e w' => ∃ A' L' c' P' K' d',e = .returned (.tuple #[.agg #[.slice A' L' c',.slice P' K' d'],.int .i64 0]) ∧ MemP P K w1.heap.size w' (.agg #[.slice A' L' c',.slice P' K' d']) (writeF m p (List.replicate k x)) ∧ Below w1.heap.size w1 w'):=by
      intro w1 B k' e hm hb;have:=write_slp m (List.replicate k x) p w1 hm hb (by rw [HM.out.len1]; omega) (by rw [HM.out.len2]; exact hK) (by rw [List.length_replicate]; omega);rw [ok2,codeF_yes] at this;exact this
    clear okm ok2 hok hx;go_enter Tryz.func157,Tryz.ntmps157;(go_wp2_with fail);refine (there_any _ _ _ _ _ _ _ _ _ (by omega) hn).mono ?_;rw [ok];rintro e w1 ⟨rfl,b1⟩;have F1:=fr_two b1;have HLn : Hid (Lies (w1.alloc (.cells #[.int .u8 (x.toNat : Int)] 5)).drew (some ⟨w1.heap.size,0,none⟩) (u8s [x])):=lies_block (t:=5) (one_new w1 _ _);clear b1;(go_wp2_with fail);refine wp_region_noPanic ?_
    go_region_held3 (fun w' => w'.cell? ⟨w.heap.size,0,none⟩ = some (.slice A L c) ∧ w'.cell? ⟨w.heap.size,1,none⟩ = some (.slice P K d) ∧ Fw w A P L c K d w') (first | assumption | exact fwS F1.drew | exact fwK (fwS F1) ((Below.refl _ _).alloc (Nat.le_refl _) _).drew | exact fwP (by assumption) _ _ _ _ _ _)
      (first | (go_at_call 233; ((with_reducible refine (repeat_one _ _ x k _ HLn.out hk).mono ?_); rintro e w2 ⟨B,k',e',rfl,hu2,b2⟩; have s2:=fwK (fwK (fwS F1) ((Below.refl _ _).alloc (Nat.le_refl _) _).drew) b2)) | (go_at_call 230; ((with_reducible refine (CW.out _ _ _ _ (HM.out.keep s2.2.2.bel) hu2).mono ?_); rintro e w3 ⟨A',L',c',P',K',d',rfl,hm3,b3⟩; have s3:=fwK s2 b3; obtain ⟨A0,n0,c0,P0,k0,d0,hres⟩:=s3.2.2.res; obtain ⟨q2,q3,q4,q5⟩:=hres.use)))
    all_goals (refine NoPanic.normal ?_)
    all_goals go_wp2
    all_goals refine bodyPost_ret (v:=.tuple #[.agg #[.slice A' L' c',.slice P' K' d'],.int .i64 0]) ?_ rfl ?_
    · obtain ⟨r0,r1⟩:=hres.got (.slice A' L' c') (.slice P' K' d')
      simp [results,Tryz.results157,go_sem,r0,r1]
    · exact ⟨_,_,_,_,_,_,rfl,hm3.row2 s2.2.2.bel.size hres (row_put _ _ _ _),(s3.2.2.bel.setCell (by simp) _).setCell (by simp) _⟩
theorem lay_yesp (A P A2 : Option Addr) (L c K d n c2 : Nat) (m : PM) (b : List UInt8) (p : Int) (w : World) (HM : Hid (IsMem w (.agg #[.slice A L c,.slice P K d]) m)) (HU : Hid (Byt w (.slice A2 n c2) b)) (hL : L ≤ 65536) (hK : K < 1000) (hp : endB L p = true) (hr : roomBC L p n = true) :
    Calls Tryz.prog 170 #[.agg #[.slice A L c,.slice P K d],.int .i64 p,.slice A2 n c2] w fun e w' => ∃ A' L' c' P' K' d',e = .returned (.tuple #[.agg #[.slice A' L' c',.slice P' K' d'],.int .i64 (p + (n : Int)),.int .i64 0]) ∧ MemP P K w.heap.size w' (.agg #[.slice A' L' c',.slice P' K' d']) (writeF m p b) ∧ Below w.heap.size w w':=by
  have hmf : ∀ (fn : Fn) (first cap : Array Value) (w : World),(Instr.makeFunc fn first cap).run Tryz.prog w = .ok (.func fn first cap) w:=fun _ _ _ _ => rfl
  obtain ⟨p0,p1⟩:=(endB_iff _ _).1 hp;have h1:=(roomB_iff _ _ _).1 hr;have h1' : decide ((L : Int) - p < (n : Int)) = false:=by simp; omega
  have hn : n ≤ 65536:=by omega
  have h2 : p + (n : Int) ≤ 65536:=by omega
  have CW : Hid (∀ w1 : World,IsMem w1 (.agg #[.slice A L c,.slice P K d]) m → Byt w1 (.slice A2 n c2) b → Calls Tryz.prog 230 #[.agg #[.slice A L c,.slice P K d],.int .i64 p,.slice A2 n c2] w1 fun e w' => ∃ A' L' c' P' K' d',e = .returned (.tuple #[.agg #[.slice A' L' c',.slice P' K' d'],.int .i64 0]) ∧ MemP P K w1.heap.size w' (.agg #[.slice A' L' c',.slice P' K' d']) (writeF m p b) ∧ Below w1.heap.size w1 w'):=by
    intro w1 hm hb;have:=write_slp m b p w1 hm hb (by rw [HM.out.len1]; exact hL) (by rw [HM.out.len2]; exact hK) (by rw [HU.out.len]; exact hn);rw [HM.out.len1,HU.out.len,room_ok hp hr,codeF_yes] at this;exact this
  clear hp hr h1;go_enter Tryz.func170,Tryz.ntmps170;(go_wp2_with fail);refine (left_any _ _ _ _ _ _ _ _ hL p0 p1).mono ?_;rintro e w1 ⟨rfl,b1⟩;have F1:=zqh (fr_two b1);obtain ⟨q0,q1,_,_⟩:=(fr_two b1).2.1.use;clear b1;(go_wp2_with fail);refine (CW.out _ (HM.out.keep F1.out.bel) (HU.out.keep F1.out.bel)).mono ?_;rintro e w2 ⟨A',L',c',P',K',d',rfl,hm2,b2⟩;have F2:=zqh ((F1.out.keep b2).keep (al_one _ (.cells #[.slice A' L' c',.slice P' K' d'] 29)));have X2:=zqh (at_new hm2.1);have N2:=zqh ((hm2.le F1.out.bel.size).keep (al_one _ (.cells #[.slice A' L' c',.slice P' K' d'] 29)));obtain ⟨q2,q3,q4,q5⟩:=F2.out.2.2.use;obtain ⟨x0,x1⟩:=X2.out.use;have M2:=zqh hm2;clear b2 hm2 F1 q0 q1;(go_wp2_with fail);refine bodyPost_ret (v:=.tuple #[.agg #[.slice A' L' c',.slice P' K' d'],.int .i64 (p + (n : Int)),.int .i64 0]) ?_ rfl ?_
  · obtain ⟨r0,r1⟩:=F2.out.2.2.got (.slice A' L' c') (.slice P' K' d')
    simp [results,Tryz.results170,go_sem,r0,r1]
  · exact ⟨_,_,_,_,_,_,rfl,N2.out.row2 (Nat.le_refl _) F2.out.2.2 (row_put _ _ _ _),F2.out.put _ _⟩
theorem lay_atp (A P A2 : Option Addr) (L c K d n c2 : Nat) (m : PM) (b : List UInt8) (p : Int) (w : World) (HM : Hid (IsMem w (.agg #[.slice A L c,.slice P K d]) m)) (HU : Hid (Byt w (.slice A2 n c2) b)) (hL : L ≤ 65536) (hK : K < 1000) (hp : endB L p = true) (hn : n ≤ 9223372036854775807) :
    Calls Tryz.prog 170 #[.agg #[.slice A L c,.slice P K d],.int .i64 p,.slice A2 n c2] w fun e w' => ∃ A' L' c' P' K' d',e = .returned (.tuple #[.agg #[.slice A' L' c',.slice P' K' d'],.int .i64 (layP L p n),.int .i64 (layC L p n)]) ∧ MemP P K w.heap.size w' (.agg #[.slice A' L' c',.slice P' K' d']) (layM m p b) ∧ Below w.heap.size w w':=by
  cases hr : roomBC L p n with
  | false =>
    rw [layP_no hr,layC_no hr,layM_no (by rw [HM.out.len1,HU.out.len]; exact hr)];exact (lay_no A P A2 L c K d n c2 p w hL hp hn hr).mono fun e w' ⟨he,hb⟩ => ⟨_,_,_,_,_,_,he,memP_same (HM.out.keep hb),hb⟩
  | true =>
    rw [layP_yes hr,layC_yes hr,layM_yes (by rw [HM.out.len1,HU.out.len]; exact hr)];exact lay_yesp A P A2 L c K d n c2 m b p w HM HU hL hK hp hr
theorem comma_atp (A P : Option Addr) (L c K d : Nat) (m : PM) (p n : Int) (w : World) (HM : Hid (IsMem w (.agg #[.slice A L c,.slice P K d]) m)) (hL : L ≤ 65536) (hK : K < 1000) (hp : endB L p = true) :
    Calls Tryz.prog 168 #[.agg #[.slice A L c,.slice P K d],.int .i64 p,.int .i64 n] w fun e w' => ∃ A' L' c' P' K' d',e = .returned (.tuple #[.agg #[.slice A' L' c',.slice P' K' d'],.int .i64 (comP L p),.int .i64 (comC L p)]) ∧ MemP P K w.heap.size w' (.agg #[.slice A' L' c',.slice P' K' d']) (comM m p n) ∧ Below w.heap.size w w':=by
  obtain ⟨p0,p1⟩:=(endB_iff _ _).1 hp;have p2 : p ≤ 65536:=by omega
  by_cases h8 : p % 8 = 0
  · have HZ:=zqh (mis_no h8)
    rw [comP_yes h8,comC_yes h8,comM_yes h8];obtain ⟨E,hE⟩ : ∃ x,layP L p 8 = x:=⟨_,rfl⟩;obtain ⟨C,hC⟩ : ∃ x,layC L p 8 = x:=⟨_,rfl⟩;have CW : Hid (∀ (w1 : World) (B : Option Addr) (k e : Nat),IsMem w1 (.agg #[.slice A L c,.slice P K d]) m → Byt w1 (.slice B k e) (cellBytes n) → Calls Tryz.prog 170 #[.agg #[.slice A L c,.slice P K d],.int .i64 p,.slice B k e] w1 fun e w' => ∃ A' L' c' P' K' d',e = .returned (.tuple #[.agg #[.slice A' L' c',.slice P' K' d'],.int .i64 E,.int .i64 C]) ∧ MemP P K w1.heap.size w' (.agg #[.slice A' L' c',.slice P' K' d']) (layM m p (cellBytes n)) ∧ Below w1.heap.size w1 w'):=by
      intro w1 B k e hm hb;have h8 : (8 : Nat) = k:=hb.len;subst h8;have:=lay_atp A P B L c K d 8 e m (cellBytes n) p w1 hm hb hL hK hp (by omega);rw [hE,hC] at this;exact this
    rw [hE,hC];clear hE hC h8 hp;go_enter Tryz.func168,Tryz.ntmps168;(go_wp2_with fail);refine (missing_any _ _ p0 p2).mono ?_;rintro e w1 ⟨rfl,b1⟩;have hz:=HZ.out;have F1:=fr_two b1;clear b1;(go_wp2_with fail);refine wp_region_noPanic ?_
    go_region_held (fun w' => w'.cell? ⟨w.heap.size,0,none⟩ = some (.slice A L c) ∧ w'.cell? ⟨w.heap.size,1,none⟩ = some (.slice P K d) ∧ Fw w A P L c K d w') (first | assumption | exact fwS F1.drew | exact fwP (by assumption) _ _ _ _ _ _)
      (first | (go_at_call 231; ((with_reducible refine (put_byt _ _).mono ?_); rintro e w2 ⟨B,k,e',rfl,hu2,b2⟩; have s2:=fwK (by assumption) b2)) | (go_at_call 170; ((with_reducible refine (CW.out _ _ _ _ (HM.out.keep s2.2.2.bel) hu2).mono ?_); rintro e w3 ⟨A',L',c',P',K',d',rfl,hm3,b3⟩; have s3:=fwK (by assumption) b3; obtain ⟨A0,n0,c0,P0,k0,d0,hres⟩:=s3.2.2.res; obtain ⟨q2,q3,q4,q5⟩:=hres.use)))
    all_goals (refine NoPanic.normal ?_)
    all_goals go_wp2
    all_goals refine bodyPost_ret (v:=.tuple #[.agg #[.slice A' L' c',.slice P' K' d'],.int .i64 E,.int .i64 C]) ?_ rfl ?_
    · obtain ⟨r0,r1⟩:=hres.got (.slice A' L' c') (.slice P' K' d')
      simp [results,Tryz.results168,go_sem,r0,r1]
    · exact ⟨_,_,_,_,_,_,rfl,hm3.row2 s2.2.2.bel.size hres (row_put _ _ _ _),(s3.2.2.bel.setCell (by simp) _).setCell (by simp) _⟩
  · have HZ:=zqh (mis_yes h8)
    rw [comP_no h8,comC_no h8,comM_no h8];clear h8 hp;go_enter Tryz.func168,Tryz.ntmps168;(go_wp2_with fail);refine (missing_any _ _ p0 p2).mono ?_;rintro e w1 ⟨rfl,b1⟩;have hz:=HZ.out;have F1:=zqh (fr_two b1);obtain ⟨q0,q1,_,_⟩:=(fr_two b1).2.1.use;obtain ⟨q2,q3,q4,q5⟩:=(fr_two b1).2.2.use;clear b1;(go_wp2_with fail);refine bodyPost_ret (v:=.tuple #[.agg #[.slice A L c,.slice P K d],.int .i64 p,.int .i64 (-23)]) ?_ rfl ?_
    · obtain ⟨r0,r1⟩:=F1.out.2.2.got (.slice A L c) (.slice P K d)
      simp [results,Tryz.results168,go_sem,r0,r1]
    · exact ⟨_,_,_,_,_,_,rfl,memP_same (F1.out.mem (HM.out.keep F1.out.bel) _ _),F1.out.put _ _⟩
theorem up_atp (A P : Option Addr) (L c K d : Nat) (m : PM) (p : Int) (w : World) (HM : Hid (IsMem w (.agg #[.slice A L c,.slice P K d]) m)) (hL : L ≤ 65536) (hK : K < 1000) (hp : endB L p = true) :
    Calls Tryz.prog 172 #[.agg #[.slice A L c,.slice P K d],.int .i64 p] w fun e w' => ∃ A' L' c' P' K' d',e = .returned (.tuple #[.agg #[.slice A' L' c',.slice P' K' d'],.int .i64 (layP L p (misN p)),.int .i64 (layC L p (misN p))]) ∧ MemP P K w.heap.size w' (.agg #[.slice A' L' c',.slice P' K' d']) (layM m p (upB p)) ∧ Below w.heap.size w w':=by
  obtain ⟨p0,p1⟩:=(endB_iff _ _).1 hp;have p2 : p ≤ 65536:=by omega
  have k8:=misN_lt p;have HU:=zqh (upB_len p);obtain ⟨T,hT⟩ : ∃ x,upB p = x:=⟨_,rfl⟩;have HT : Hid (T = List.replicate (misN p) 0):=hT.symm;have HMI:=zqh (missing_any p · p0 p2);obtain ⟨k,hk⟩ : ∃ x,misN p = x:=⟨_,rfl⟩;rw [hT] at HU;rw [hk] at k8 HMI HU HT;obtain ⟨E,hE⟩ : ∃ x,layP L p k = x:=⟨_,rfl⟩;obtain ⟨C,hC⟩ : ∃ x,layC L p k = x:=⟨_,rfl⟩;have CW : Hid (∀ (w1 : World) (B : Option Addr) (e : Nat),IsMem w1 (.agg #[.slice A L c,.slice P K d]) m → Byt w1 (.slice B k e) T → Calls Tryz.prog 170 #[.agg #[.slice A L c,.slice P K d],.int .i64 p,.slice B k e] w1 fun e w' => ∃ A' L' c' P' K' d',e = .returned (.tuple #[.agg #[.slice A' L' c',.slice P' K' d'],.int .i64 E,.int .i64 C]) ∧ MemP P K w1.heap.size w' (.agg #[.slice A' L' c',.slice P' K' d']) (layM m p T) ∧ Below w1.heap.size w1 w'):=by
    intro w1 B e hm hb;have:=lay_atp A P B L c K d k e m T p w1 hm hb hL hK hp (by omega);rw [hE,hC] at this;exact this
  obtain ⟨i0,hi,hz0,hz1,hz2⟩:=info_parts info_u8;obtain ⟨Z,hZ⟩ : ∃ Z,Z = (u8s T).toArray:=⟨_,rfl⟩;have hmk : ∀ w : World,(Instr.makeSlice 26 (.int .i64 (k : Int)) (.int .i64 (k : Int))).run Tryz.prog w = .ok (.slice (some ⟨w.heap.size,0,none⟩) k k) (w.alloc (.cells Z 5)):=by
    intro w;have:=run_make (P:=Tryz.prog) w 26 5 i0 (.int .u8 0) Tryz.underlying26 hi hz0 .i64 .i64 k k (by omega) (Int.le_refl _) (by rw [hz2]; omega) (by omega);rw [hz1,Nat.mul_one,Int.toNat_natCast,made_u8] at this;rw [hZ,HT.out];exact this
  have HB : Hid (∀ W : World,Byt (W.alloc (.cells Z 5)) (.slice (some ⟨W.heap.size,0,none⟩) k k) T):=by
    intro W;have h:=byt_block (l:=T) (t:=5) (w:=W.alloc (.cells Z 5)) (g:=W.heap.size) (by rw [hZ]; exact one_new _ _ _) (by rw [HU.out]; omega);rw [HU.out] at h;exact h
  rw [hT,hk,hE,hC];have F1:=fr_new w A P L c K d;clear hE hC hp hT hk hZ hi hz0 hz1 hz2 HU HT;go_enter Tryz.func172,Tryz.ntmps172;(go_wp2_with fail);refine wp_region_noPanic ?_
  go_region_held (fun w' => w'.cell? ⟨w.heap.size,0,none⟩ = some (.slice A L c) ∧ w'.cell? ⟨w.heap.size,1,none⟩ = some (.slice P K d) ∧ Fw w A P L c K d w') (first | assumption | exact fwS F1.drew | exact fwP (by assumption) _ _ _ _ _ _ | exact fwK (by assumption) (al_one _ _))
    (first | (go_at_call 237; ((with_reducible refine (HMI.out _).mono ?_); rintro e w2 ⟨rfl,b2⟩; have s2:=fwK (by assumption) b2)) | (go_at_call 170; ((with_reducible refine (CW.out _ _ _ ((HM.out.keep s2.2.2.bel).keep (al_one _ _)) (HB.out _)).mono ?_); rintro e w3 ⟨A',L',c',P',K',d',rfl,hm3,b3⟩; have s3:=fwK (fwK s2 (al_one _ _)) b3; obtain ⟨A0,n0,c0,P0,k0,d0,hres⟩:=s3.2.2.res; obtain ⟨q2,q3,q4,q5⟩:=hres.use)))
  all_goals (refine NoPanic.normal ?_)
  all_goals go_wp2
  all_goals refine bodyPost_ret (v:=.tuple #[.agg #[.slice A' L' c',.slice P' K' d'],.int .i64 E,.int .i64 C]) ?_ rfl ?_
  · obtain ⟨r0,r1⟩:=hres.got (.slice A' L' c') (.slice P' K' d')
    simp [results,Tryz.results172,go_sem,r0,r1]
  · exact ⟨_,_,_,_,_,_,rfl,hm3.row2 (by have:=s2.2.2.bel.size; simp; omega) hres (row_put _ _ _ _),(s3.2.2.bel.setCell (by simp) _).setCell (by simp) _⟩
end Go.Proofs.YtcmldhjicjmmgaaGreatDoor
