/- Part 17. -/
import Derived.Test.YtcmldhjicjmmgaaGreatDoorXlAO
set_option linter.unusedVariables false
set_option linter.unusedSimpArgs false
set_option maxRecDepth 100000
set_option maxHeartbeats 4000000

namespace Go.Proofs.YtcmldhjicjmmgaaGreatDoor
open Go.RowKit


theorem rwrite_yesp (A P A2 : Option Addr) (L c K d n c2 q : Nat) (m : PM) (b : List UInt8) (w : World) (HM : Hid (IsMem w (.agg #[.slice A L c,.slice P K d]) m)) (HU : Hid (Byt w (.slice A2 n c2) b)) (hL : L ≤ 65536) (hK : K < 1000) (hn0 : 0 < n) (hq : q + n ≤ L) (ok : okB L q n = true) :
    Calls Tryz.prog 24 #[.agg #[.slice A L c,.slice P K d],.int .i64 (q : Int),.slice A2 n c2] w fun e w' => ∃ x y,e = .returned (.tuple #[.agg #[x,y],.int .i64 0]) ∧ MemP P K w.heap.size w' (.agg #[x,y]) (writeF m q b) ∧ Below w.heap.size w w':=by
  have hz : ((n : Int) == 0) = false:=by simp; omega
  obtain ⟨i0,hi,hz0,hz1,hz2⟩:=info_parts info_u8;obtain ⟨j0,hj,hy0,hy1,hy2⟩:=info_parts info_patch;have hlb : Hid (b.length = n):=HU.out.len;go_enter Tryz.func24,Tryz.ntmps24;(go_wp2_with fail);refine (rthere_any _ _ _ _ _ _ _ _ _ (by omega) (by omega)).mono ?_;rw [ok];rintro e w1 ⟨rfl,b1⟩;obtain ⟨k0,k1⟩:=box_two w (.slice A L c) (.slice P K d) (.slice none 0 0) (.slice none 0 0) 29 29;have K0:=zqh (k0.keep b1);have K1:=zqh (k1.keep b1);obtain ⟨q0,q1,_,_⟩:=(k0.keep b1).use;have HB:=zqh (below_two b1);clear k0 k1 b1;(go_wp2_with fail);refine (rtext_at _ _ _ _ _ _ m _ _ _ (HM.out.keep HB.out) hL (by omega)).mono ?_;rw [ok,codeF_yes];rintro e w2 ⟨B,k,e',rfl,hu2,b2⟩;have K2:=zqh (K0.out.keep b2);have K3:=zqh (K1.out.keep b2);have HT:=zqh hu2;have HB2:=zqh (below_then HB.out b2);have HL2:=zqh (HM.out.keep HB2.out).byt.lies;clear q0 q1 hu2 b2;obtain ⟨q0,q1,_,_⟩:=K2.out.use;have hlt0:=K2.out.lt;have hlt1:=K3.out.lt;obtain ⟨X,hX⟩ : ∃ X,X = u8s m.1:=⟨_,rfl⟩;have HX : Hid (X.length = L):=by rw [hX,u8s_len]; exact HM.out.len1
  have H1 : Hid (∀ v ∈ X,v.oneCell' = true):=by rw [hX]; exact u8s_one m.1
  rw [← hX] at HL2;have HE:=zqh hX;clear hX;(go_wp2_with (at_builtin; refine wpList_append_lies rfl _ _ 26 rfl w2.heap.size 5 i0 (.int .u8 0) 1 1 Tryz.underlying26 hi hz0 hz1 hz2 rfl (by decide) _ _ _ rfl (World.ownsRow_lit w2 #[] 0 (Nat.le_refl _) (by unfold maxLen; omega) rfl) A L c X rfl ?c1 ?c2 ?c3 ?c4 ?c5 ?c6 ?_))
  case c1 => rw [HX.out]; omega
  case c2 => exact HL2.out.keep ((Below.refl _ _).alloc (Nat.le_refl _) _)
  case c3 => exact H1.out
  case c4 => unfold maxLen; omega
  case c5 => omega
  case c6 => simp
  intro v3 w3 hown hgrow;have hB3 : Below w2.heap.size w2 w3:=((Below.refl w2.heap.size w2).alloc (Nat.le_refl _) _).grown hgrow (by simp) (fun k hk => by cases hk; exact Nat.le_refl _);have hown' : w3.ownsRow w2.heap.size 5 1 v3 L X:=by simpa using hown
  obtain ⟨g,cap,rfl,hg2,hg3⟩:=hown'.form (by omega);have HO:=zqh hown';have HB3:=zqh hB3;clear hown hgrow hB3 hown' q0 q1;(go_wp2_with fail)
  go_loopw [12] (fun i wr => ∃ j : Nat,j ≤ n ∧ i = .int .i64 (j : Int) ∧ wr.ownsRow w2.heap.size 5 1 (.slice (some ⟨g,0,none⟩) L cap) L (u8s (splice m.1 q (b.take j))) ∧ Below w2.heap.size w2 wr) (fun i _ => n - (intOf i).toNat)
  case atStart => exact ⟨0,Nat.zero_le _,rfl,by simpa [splice,← HE.out] using HO.out,HB3.out⟩
  case round =>
    obtain ⟨j,hj',rfl,hown,hb⟩:=hrel
    by_cases hlt : j < n
    · obtain ⟨g5,o5,rfl,hg5,hc5⟩ : ∃ g5 o5,A2 = some ⟨g5,o5,none⟩ ∧ g5 < w.heap.size ∧ w.cell? ⟨g5,o5 + j,none⟩ = some (.int .u8 ((b.getD j 0).toNat : Int)):=by
        have hl:=hlb.out
        rcases HU.out.lies with e | ⟨g5,o5,e,hg,hc⟩
        · have:=congrArg List.length e
          rw [u8s_len,hl] at this;simp at this;omega
        · refine ⟨g5,o5,e,hg,hc j _ ?_⟩
          rw [u8s_at (by omega)];simp [List.getD,List.getElem?_eq_getElem (by omega : j < b.length)]
      obtain ⟨x,hx⟩ : ∃ x : UInt8,b.getD j 0 = x:=⟨_,rfl⟩;rw [hx] at hc5;have HX5:=zqh hx;have hc6 : wr.cell? ⟨g5,o5 + j,none⟩ = some (.int .u8 (x.toNat : Int)):=(((HB2.out.trans (hb.mono HB2.out.size)).cell (p:=⟨g5,o5 + j,none⟩) hg5)).trans hc5;have hcl:=hown.cellAt (q + j) (by omega);obtain ⟨y,hy⟩ : ∃ y,(u8s (splice m.1 q (b.take j)))[q + j]? = some y:=by
        refine ⟨_,u8s_at ?_⟩;have:=hlb.out;have:=HM.out.len1;rw [length_splice _ _ _ (by simp; omega)];omega
      have hc7 : wr.cell? ⟨g,q + j,none⟩ = some y:=hcl.trans hy;have hf7 : wr.frozen? ⟨g,q + j,none⟩ = false:=hown.frozenAt (q + j);obtain ⟨hst,hgr⟩:=hown.stored (q + j) (.int .u8 (x.toNat : Int));have hlc : L ≤ cap:=by
        rcases hown.2 with ⟨h,_⟩ | ⟨g',cap',cur,e,_,_,h,_⟩
        · cases h
        · injection e with _ _ e
          omega
      rw [lay_step m.1 b q j x (by rw [hlb.out]; exact hlt) (by rw [hlb.out,HM.out.len1]; exact hq) hx] at hst;have HST:=zqh hst;have HBS : Hid (Below w2.heap.size w2 (wr.setCell ⟨g,q + j,none⟩ (.int .u8 (x.toNat : Int)))):=hb.setCell hg2 _;clear hst hgr hy hcl hx hc5 hown hb;go_wp2
      go_roundw
      case rel => exact ⟨j + 1,by omega,by go_num,HST.out,HBS.out⟩
      case measure => simp [intOf]; omega
    · have hjn : j = n:=by omega
      subst hjn;have hl:=hlb.out;rw [List.take_of_length_le (by omega)] at hown;have HBy:=zqh (own_byt hown);have K4:=zqh (K2.out.keep hb);have K5:=zqh (K3.out.keep hb);have HBr:=zqh hb;have HBw:=zqh (HB2.out.trans (hb.mono HB2.out.size));obtain ⟨q0,q1,_,_⟩:=K4.out.use;obtain ⟨q2,q3,_,_⟩:=K5.out.use;have hlt3:=K4.out.lt;have hlt4:=K5.out.lt;obtain ⟨qs,HQ,hlq,htl⟩ : ∃ qs : List Qt,Hid (qs.length = K) ∧ Lies w P (pc qs) ∧ Tells w qs m.2:=HM.out.patq;have HQL : Hid ((pc qs).length = K * 2):=by have:=HQ.out; show _ = _; rw [pc_len]; omega
      have HLQ:=zqh (hlq.keep HBw.out);have HTQ:=zqh htl;clear hown hb hl hlq htl;(go_wp2_with (first | (at_builtin; refine wpList_append_lies rfl (.tmp 53) (.tmp 55) 27 rfl wr.heap.size 86 j0 (.agg #[.int .i64 0,.slice none 0 0]) 2 32 Tryz.underlying27 hj hy0 hy1 hy2 rfl (by decide) _ _ _ rfl (World.ownsRow_lit wr #[] 0 (Nat.le_refl _) (by unfold maxLen; omega) rfl) P K d (pc qs) rfl ?c1 ?c2 ?c3 ?c4 ?c5 ?c6 ?_)))
      case c1 => exact HQL.out
      case c2 => exact HLQ.out.keep ((Below.refl _ _).alloc (Nat.le_refl _) _)
      case c3 => exact pc_one HTQ.out
      case c4 => unfold maxLen; omega
      case c5 => omega
      case c6 => simp
      intro v5 w5 hown5 hgrow5;have hB5 : Below wr.heap.size wr w5:=((Below.refl wr.heap.size wr).alloc (Nat.le_refl _) _).grown hgrow5 (by simp) (fun k hk => by cases hk; exact Nat.le_refl _);have hown5' : w5.ownsRow wr.heap.size 86 2 v5 K (pc qs):=by simpa using hown5
      have HB5:=zqh hB5;have K6:=zqh (K5.out.keep hB5);have hlt5:=K6.out.lt;have hlt6:=hB5.size;clear hown5 hgrow5 hB5 q0 q1 q2 q3;(go_wp2_with (first | (at_builtin; refine wpList_append_lies rfl (.tmp 56) (.tmp 60) 27 rfl wr.heap.size 86 j0 (.agg #[.int .i64 0,.slice none 0 0]) 2 32 Tryz.underlying27 hj hy0 hy1 hy2 rfl (by decide) _ _ _ rfl (hown5'.alloc _) (some ⟨w5.heap.size,0,none⟩) 1 1 (pc [((q : Int),.slice B k e')]) rfl ?c1 ?c2 ?c3 ?c4 ?c5 ?c6 ?_)))
      case c1 => rfl
      case c2 => exact lies_block (t:=86) (one_new _ _ _)
      case c3 => intro u hu; simp [pc] at hu; rcases hu with rfl | rfl <;> rfl
      case c4 => unfold maxLen; omega
      case c5 => omega
      case c6 => simp; omega
      intro v6 w6 hown6 hgrow6;have hB6 : Below wr.heap.size wr w6:=(HB5.out.alloc HB5.out.size _).grown hgrow6 (by simp; omega) (own_from hown5');have HB6:=zqh hB6;have K7:=zqh (K5.out.keep hB6);obtain ⟨q2,q3,q4,q5⟩:=(K5.out.keep hB6).use;have HO6:=zqh hown6;obtain ⟨g6,cap6,rfl,hg6,_⟩:=hown6.form (by omega);clear hown6 hgrow6 hB6 hown5';go_wp2;refine bodyPost_ret (v:=.tuple #[.agg #[.slice (some ⟨g,0,none⟩) L cap,.slice (some ⟨g6,0,none⟩) (K + 1) cap6],.int .i64 0]) ?_ rfl ?_
      · obtain ⟨r0,r1⟩:=K7.out.got (.slice (some ⟨g,0,none⟩) L cap) (.slice (some ⟨g6,0,none⟩) (K + 1) cap6)
        simp [results,Tryz.results24,go_sem,r0,r1]
      · have hb0 : b ≠ []:=by
          intro e;have:=hlb.out;rw [e] at this;simp at this;omega
        have ok' : okB m.1.length (q : Int) b.length = true:=by rw [HM.out.len1,hlb.out]; exact ok
        have b6 : Below w.heap.size w w6:=HBw.out.trans (HB6.out.mono HBw.out.size);refine ⟨_,_,rfl,memP_new (IsMem.row (w:=w6) ?_ K7.out (row_put _ _ _ _)) (Nat.le_trans HBw.out.size hg6),(b6.setCell (by simp) _).setCell (by simp) _⟩;rw [writeF_yes ok' hb0];refine mem_mk (HBy.out.keep HB6.out) ?_;refine own_pats (qs:=qs ++ [((q : Int),.slice B k e')]) (by rw [pc_app]; exact HO6.out) (Tells.snoc (p:=((q : Int),textF m q b.length)) (HTQ.out.keep b6) ?_);rw [hlb.out];exact HT.out.keep (HBr.out.trans (HB6.out.mono HBr.out.size))
theorem rwrite_slp {A P : Option Addr} {L c K d : Nat} {u : Value} (m : PM) (b : List UInt8) (p : Int) (w : World) (h : IsMem w (.agg #[.slice A L c,.slice P K d]) m) (hu : Byt w u b) (hL : m.1.length ≤ 65536) (hK : m.2.length < 1000) (hb : b.length ≤ 65536) :
    Calls Tryz.prog 24 #[.agg #[.slice A L c,.slice P K d],.int .i64 p,u] w fun e w' => ∃ A' L' c' P' K' d',e = .returned (.tuple #[.agg #[.slice A' L' c',.slice P' K' d'],.int .i64 (codeF (okB m.1.length p b.length))]) ∧ MemP P K w.heap.size w' (.agg #[.slice A' L' c',.slice P' K' d']) (writeF m p b) ∧ Below w.heap.size w w':=by
  have e1:=h.len1;have e2:=h.len2;obtain ⟨A2,c2,rfl⟩:=hu.form;rw [e1] at hL ⊢;rw [e2] at hK
  by_cases hn : okB L p b.length = false ∨ b.length = 0
  · refine (rwrite_no A P A2 _ c _ d _ c2 p w hL hb hn).mono fun e w' ⟨he,hw⟩ => ⟨_,_,_,_,_,_,he,?_,hw⟩
    have e : writeF m p b = m:=by
      rcases hn with hn | hn
      · exact writeF_no (by rw [e1]; exact hn)
      · rw [List.eq_nil_of_length_eq_zero hn]; exact writeF_nil
    rw [e];exact memP_same (h.keep hw)
  · have ok : okB L p b.length = true:=by
      cases e : okB L p b.length with
      | true => rfl
      | false => exact absurd (.inl e) hn
    have hok:=(okB_iff _ _ _).1 ok;obtain ⟨q,rfl⟩:=Int.eq_ofNat_of_zero_le (by omega : 0 ≤ p);refine (rwrite_yesp A P A2 _ c _ d _ c2 q m b w h hu hL hK (by omega) (by omega) ok).mono fun e w' ⟨x,y,he,hm,hw⟩ => ?_
    obtain ⟨A3,n3,c3,P3,k3,d3,rfl,rfl⟩:=hm.1.slices;refine ⟨_,_,_,_,_,_,?_,hm,hw⟩;rw [ok,codeF_yes];exact he
theorem rstore_atp (A P : Option Addr) (L c K d : Nat) (m : PM) (p n : Int) (w : World) (HM : Hid (IsMem w (.agg #[.slice A L c,.slice P K d]) m)) (hL : L ≤ 65536) (hK : K < 1000) :
    Calls Tryz.prog 14 #[.agg #[.slice A L c,.slice P K d],.int .i64 p,.int .i64 n] w fun e w' => ∃ A' L' c' P' K' d',e = .returned (.tuple #[.agg #[.slice A' L' c',.slice P' K' d'],.int .i64 (cellC L p)]) ∧ MemP P K w.heap.size w' (.agg #[.slice A' L' c',.slice P' K' d']) (storeF m p n) ∧ Below w.heap.size w w':=by
  obtain ⟨C,hC⟩ : ∃ C,cellC L p = C:=⟨_,rfl⟩
  by_cases h0 : C = 0
  · subst h0
    have HF : Hid (storeF m p n = writeF m p (cellBytes n)):=by unfold storeF; rw [if_pos (by rw [HM.out.len1]; exact hC)]; rfl
    have ok : okB m.1.length p (cellBytes n).length = true:=by rw [HM.out.len1,cellBytes_len]; exact store_ok hC
    have CW : Hid (∀ (w1 : World) (B : Option Addr) (k e : Nat),IsMem w1 (.agg #[.slice A L c,.slice P K d]) m → Byt w1 (.slice B k e) (cellBytes n) → Calls Tryz.prog 24 #[.agg #[.slice A L c,.slice P K d],.int .i64 p,.slice B k e] w1 fun e w' => ∃ A' L' c' P' K' d',e = .returned (.tuple #[.agg #[.slice A' L' c',.slice P' K' d'],.int .i64 0]) ∧ MemP P K w1.heap.size w' (.agg #[.slice A' L' c',.slice P' K' d']) (writeF m p (cellBytes n)) ∧ Below w1.heap.size w1 w'):=by
      intro w1 B k e hm hb;have:=rwrite_slp m (cellBytes n) p w1 hm hb (by rw [HM.out.len1]; exact hL) (by rw [HM.out.len2]; exact hK) (by rw [cellBytes_len]; omega);rw [ok,codeF_yes] at this;exact this
    rw [HF.out,hC];have HC:=zqh hC;clear hC ok;go_enter Tryz.func14,Tryz.ntmps14;(go_wp2_with fail);refine (rcellAt_any _ _ _ _ _ _ _ _ hL).mono ?_;rw [HC.out];rintro e w1 ⟨rfl,b1⟩;have F1:=fr_two b1;clear b1;(go_wp2_with fail);refine wp_region_noPanic ?_
    go_region_held (fun w' => w'.cell? ⟨w.heap.size,0,none⟩ = some (.slice A L c) ∧ w'.cell? ⟨w.heap.size,1,none⟩ = some (.slice P K d) ∧ Fw w A P L c K d w') (first | assumption | exact fwS F1.drew | exact fwP (by assumption) _ _ _ _ _ _)
      (first | (go_at_call 25; ((with_reducible refine (rput_byt _ _).mono ?_); rintro e w2 ⟨B,k,e',rfl,hu2,b2⟩; have s2:=fwK (by assumption) b2)) | (go_at_call 24; ((with_reducible refine (CW.out _ _ _ _ (HM.out.keep s2.2.2.bel) hu2).mono ?_); rintro e w3 ⟨A',L',c',P',K',d',rfl,hm3,b3⟩; have s3:=fwK (by assumption) b3; obtain ⟨A0,n0,c0,P0,k0,d0,hres⟩:=s3.2.2.res; obtain ⟨q2,q3,q4,q5⟩:=hres.use)))
    all_goals (refine NoPanic.normal ?_)
    all_goals go_wp2
    all_goals refine bodyPost_ret (v:=.tuple #[.agg #[.slice A' L' c',.slice P' K' d'],.int .i64 0]) ?_ rfl ?_
    · obtain ⟨r0,r1⟩:=hres.got (.slice A' L' c') (.slice P' K' d')
      simp [results,Tryz.results14,go_sem,r0,r1]
    · exact ⟨_,_,_,_,_,_,rfl,hm3.row2 s2.2.2.bel.size hres (row_put _ _ _ _),(s3.2.2.bel.setCell (by simp) _).setCell (by simp) _⟩
  · have hF : storeF m p n = m:=by unfold storeF; rw [if_neg (by rw [HM.out.len1,hC]; exact h0)]
    rw [hF,hC];have HC:=zqh hC;have h0' : (C != 0) = true:=by simp [h0]
    clear hC hF h0;go_enter Tryz.func14,Tryz.ntmps14;(go_wp2_with fail);refine (rcellAt_any _ _ _ _ _ _ _ _ hL).mono ?_;rw [HC.out];rintro e w1 ⟨rfl,b1⟩;have F1:=zqh (fr_two b1);obtain ⟨q0,q1,_,_⟩:=(fr_two b1).2.1.use;obtain ⟨q2,q3,q4,q5⟩:=(fr_two b1).2.2.use;clear b1;(go_wp2_with fail);refine bodyPost_ret (v:=.tuple #[.agg #[.slice A L c,.slice P K d],.int .i64 C]) ?_ rfl ?_
    · obtain ⟨r0,r1⟩:=F1.out.2.2.got (.slice A L c) (.slice P K d)
      simp [results,Tryz.results14,go_sem,r0,r1]
    · exact ⟨_,_,_,_,_,_,rfl,memP_same (F1.out.mem (HM.out.keep F1.out.1) _ _),F1.out.put _ _⟩
end Go.Proofs.YtcmldhjicjmmgaaGreatDoor
