/- Part 3. -/
import Derived.Maps.AppendAt
import Derived.Test.YtcmldhjicjmmgaaGreatDoorXlAB
import Derived.Deep.AppendLies
set_option linter.unusedVariables false
set_option linter.unusedSimpArgs false
set_option maxRecDepth 100000
set_option maxHeartbeats 4000000

namespace Go.Proofs.YtcmldhjicjmmgaaGreatDoor
open Go.RowKit


theorem wpList_append_lies {P : Program} {w : World} {ops : Array Oper} {rest : List Oper} {o : Oper} {a : Act} {Q : Exit → Act → World → Prop} (hgd : o.guard = none) (s x : Operand) (t : TypeId)
    (ho : o.op = .call { callee:=.builtin .append,args:=#[s,x],argTypes:=#[t,t] })
    (base : Nat) (e : TypeId) (i : TypeInfo) (z : Value) (size bytes : Nat) (ht : P.underlying t = some (.slice e)) (hi : P.info? e = some i) (hz : i.zero = some z)
    (hsize : i.size = size) (hby : i.bytes = bytes) (hzs : z.cells.size = size) (hsz : 0 < size)
    (v : Value) (n : Nat) (xs : List Value) (hs : a.eval s = v) (hown : w.ownsRow base e size v n xs)
    (A : Option Addr) (m c : Nat) (news : List Value) (hx : a.eval x = .slice A m c) (hl : news.length = m * size) (hn : Lies w A news) (h1 : ∀ u ∈ news,u.oneCell' = true)
    (h63 : n + m ≤ maxLen) (hbytes : (n + m) * bytes ≤ 140737488355328) (hbase : base ≤ w.heap.size)
    (h : ∀ v' w',w'.ownsRow base e size v' (n + m) (xs ++ news) → w.grownBy w' v.ownBlock → wpList P ops Q rest (a.put o.dst v') w') : wpList P ops Q (o :: rest) a w:=by
  cases A with
  | some ad =>
    refine wpList_append_own w hgd s x t ho base e i z size bytes ht hi hz hsize hby hzs hsz v n xs hs hown ad m c news hx hl ?_ h1 h63 hbytes hbase fun v' w' h2 h3 _ => h v' w' h2 h3
    intro j u hu
    rcases hn with rfl | ⟨g,o',e',_,hc⟩
    · simp at hu
    · injection e' with e'
      rw [e',add_at];exact hc j u hu
  | none =>
    have hnil : news = []:=by
      rcases hn with h | ⟨_,_,h,_⟩
      · exact h
      · cases h
    subst hnil;have hm : m = 0:=by
      rcases Nat.mul_eq_zero.1 hl.symm with h | h
      · exact h
      · omega
    subst hm;refine wpList_plain hgd fun K hK => ?_
    have hrun : (Builtin.append_ #[t,t] o.type #[v,.slice none 0 c]).run P w = .ok v w:=by
      rcases hown.2 with ⟨rfl,rfl⟩ | ⟨g,cap,cur,rfl,_,_,hnc,_⟩
      · simp [Builtin.append_,run_underlying ht,sizeOf,typeInfo,hi,Builtin.lenOf,Builtin.firstCells]
      · simp [Builtin.append_,run_underlying ht,sizeOf,typeInfo,hi,Builtin.lenOf,Builtin.firstCells,hnc,storeCells]
    unfold Oper.wp;simp [execOp,ho,resolve,invoke,builtin,hs,hx,hrun,Result.andThen];exact hK _ _ (h v w (by simpa using hown) (World.grownBy.refl w _))
theorem own_byt {w : World} {base n : Nat} {v : Value} {l : List UInt8} (h : w.ownsRow base 5 1 v n (u8s l)) : Byt w v l:=by
  have hl:=h.1;rw [u8s_len,Nat.mul_one] at hl;subst hl
  rcases h.2 with ⟨rfl,h0⟩ | ⟨g,cap,cur,rfl,_,hg,hnc,hcm,_,ht⟩
  · have : l = []:=List.eq_nil_of_length_eq_zero h0
    subst this;exact byt_nil w
  · refine ⟨some ⟨g,0,none⟩,cap,rfl,hnc,hcm,.inr ⟨g,0,rfl,(Array.getElem?_eq_some_iff.1 hg).1,fun j x hx => ?_⟩⟩
    rw [← ht,List.getElem?_take] at hx
    split at hx
    · rw [Nat.zero_add]
      simp [World.cell?,hg];simpa using hx
    · cases hx
theorem own_from {w : World} {base e size n : Nat} {v : Value} {xs : List Value} (h : w.ownsRow base e size v n xs) : ∀ k,v.ownBlock = some k → base ≤ k:=fun k hk => (h.lt k hk).1
theorem rtext_at (A P : Option Addr) (L c K d : Nat) (m : PM) (p n : Int) (w : World) (HM : Hid (IsMem w (.agg #[.slice A L c,.slice P K d]) m)) (hL : L ≤ 65536) (hn : n ≤ 9223372036854775807) :
    Calls Tryz.prog 37 #[.agg #[.slice A L c,.slice P K d],.int .i64 p,.int .i64 n] w fun e w' => ∃ B k e',e = .returned (.tuple #[.slice B k e',.int .i64 (codeF (okB L p n))]) ∧ Byt w' (.slice B k e') (textF m p n) ∧ Below w.heap.size w w':=by
  cases ok : okB L p n with
  | false =>
    have H : Hid (textF m p n = []):=textF_no (by rw [HM.out.len1]; exact ok);rw [codeF_no];go_enter Tryz.func37,Tryz.ntmps37;(go_wp2_with (go_at_call 36; (with_reducible refine (rthere_any _ _ _ _ _ _ _ _ _ (by omega) hn).mono ?_); rintro e w1 ⟨rfl,b1⟩));go_ret2;exact ⟨_,_,_,rfl,by rw [H.out]; exact byt_nil _,box_below b1⟩
  | true =>
    have hok:=(okB_iff _ _ _).1 ok;have ok' : okB m.1.length p n = true:=by rw [HM.out.len1]; exact ok
    have HL : Hid ((textF m p n).length = n.toNat):=textF_len ok';have HT:=zqh (textF_yes ok');obtain ⟨T,hT⟩ : ∃ T,T = textF m p n:=⟨_,rfl⟩;rw [← hT] at HL HT ⊢;obtain ⟨k,rfl⟩:=Int.eq_ofNat_of_zero_le (by omega : 0 ≤ n);have hk : k ≤ L:=by omega
    obtain ⟨i0,hi,hz0,hz1,hz2⟩:=info_parts info_u8;rw [codeF_yes];clear hT ok';go_enter Tryz.func37,Tryz.ntmps37;(go_wp2_with fail);refine (rthere_any _ _ _ _ _ _ _ _ _ (by omega) hn).mono ?_;rw [ok];rintro e w1 ⟨rfl,b1⟩;have K0:=zqh ((box_new w (.slice A L c) (.slice P K d) 29).keep b1);have HB:=zqh (box_below b1);have HM1:=zqh (HM.out.keep HB.out);clear b1;(go_wp2_with fail)
    go_loopw [9,10] (fun v i wr => ∃ j : Nat,j ≤ k ∧ i = .int .i64 (j : Int) ∧ wr.ownsRow w1.heap.size 5 1 v j (u8s (T.take j)) ∧ Below w1.heap.size w1 wr) (fun _ i _ => k - (intOf i).toNat)
    case atStart => exact ⟨0,Nat.zero_le _,rfl,by simpa [u8s] using World.ownsRow_nil _ _ _ _,Below.refl _ _⟩
    case round =>
      obtain ⟨j,hj,rfl,hown,hb⟩:=hrel
      by_cases hlt : j < k
      · have h2:=(hok.resolve_left (by omega))
        obtain ⟨q,rfl⟩:=Int.eq_ofNat_of_zero_le h2.2.1;have hqj : q + j < L:=by omega
        obtain ⟨g,o,rfl,hg,hc,hLc⟩:=mem_cell HM1.out hqj;obtain ⟨x,hx⟩ : ∃ x : UInt8,x = m.1.getD (q + j) 0:=⟨_,rfl⟩;rw [← hx] at hc;have HX : Hid (T.take (j + 1) = T.take j ++ [x]):=by
          have hl : j < T.length:=by rw [HL.out]; omega
          rw [List.take_succ_eq_append_getElem hl]
          congr 2
          have e2 : T[j]? = some T[j]:=List.getElem?_eq_getElem hl;rw [hx];have hlm : m.1.length = L:=HM.out.len1;have e3 : T[j]? = m.1[q + j]?:=by
            rw [HT.out,List.getElem?_take,if_pos (by omega),List.getElem?_drop];simp
          rw [e2,List.getElem?_eq_getElem (by omega)] at e3;injection e3 with e3
          rw [e3];simp [List.getD,List.getElem?_eq_getElem (by omega : q + j < m.1.length)]
        obtain ⟨k0,k1,_,_⟩:=(K0.out.keep hb).use;have hc1 : wr.cell? ⟨g,o + (q + j),none⟩ = some (.int .u8 (x.toNat : Int)):=(hb.cell (p:=⟨g,o + (q + j),none⟩) hg).trans hc;clear hx hc h2 hok ok;(go_wp2_with (at_builtin; refine wpList_append_own _ rfl _ _ 26 rfl w1.heap.size 5 i0 (.int .u8 0) 1 1 Tryz.underlying26 hi hz0 hz1 hz2 rfl (by decide) _ _ _ rfl (hown.alloc _) ⟨wr.heap.size,0,none⟩ 1 1 [.int .u8 (x.toNat : Int)] rfl rfl ?c1 ?c2 ?c3 ?c4 ?c5 ?_))
        case c1 => exact cell_one_new _ _ _
        case c2 => simp [Value.oneCell']
        case c3 => unfold maxLen; omega
        case c4 => omega
        case c5 => have:=hb.size; simp; omega
        intro v' w2 hown2 hgrow _;have hb2 : Below w1.heap.size w1 w2:=(hb.alloc hb.size _).grown hgrow (by have:=hb.size; simp; omega) (own_from hown);have hown3 : w2.ownsRow w1.heap.size 5 1 v' (j + 1) (u8s (T.take (j + 1))):=by rw [HX.out,u8s_app]; exact hown2
        have HO:=zqh hown3;clear hown hb hgrow hown2 hown3 hc1 k0 k1;go_wp2
        go_roundw
        case rel => exact ⟨j + 1,by omega,by go_num,HO.out,hb2⟩
        case measure => simp [intOf]; omega
      · have hjk : j = k:=by omega
        subst hjk;have hl:=HL.out;rw [List.take_of_length_le (by rw [hl]; simp)] at hown;have HO:=zqh (own_byt hown);have HB2:=zqh hb;obtain ⟨B,e',rfl⟩:=(own_byt hown).form;clear hown hb hl hok;go_wp2;go_ret2;exact ⟨_,_,_,rfl,HO.out,below_then HB.out HB2.out⟩


theorem own_pats {w : World} {base n : Nat} {v : Value} {qs : List Qt} {ps : List Pt} (h : w.ownsRow base 86 2 v n (pc qs)) (ht : Tells w qs ps) : Pats w v ps:=by
  have hl:=h.1;rw [pc_len] at hl;have hq:=ht.1;obtain rfl : n = ps.length:=by omega
  rcases h.2 with ⟨rfl,h0⟩ | ⟨g,cap,cur,rfl,_,hg,hnc,hcm,_,htk⟩
  · have : ps = []:=List.eq_nil_of_length_eq_zero h0
    subst this;have : qs = []:=List.eq_nil_of_length_eq_zero hq;subst this;exact pats_nil w
  · refine ⟨some ⟨g,0,none⟩,cap,qs,rfl,hnc,hcm,.inr ⟨g,0,rfl,(Array.getElem?_eq_some_iff.1 hg).1,fun j x hx => ?_⟩,ht⟩
    rw [← htk,List.getElem?_take] at hx
    split at hx
    · rw [Nat.zero_add]
      simp [World.cell?,hg];simpa using hx
    · cases hx
theorem splice_step {α : Type} (l c : List α) (q j : Nat) (hj : j < c.length) (hq : q + c.length ≤ l.length) : (splice l q (c.take j)).set (q + j) c[j] = splice l q (c.take (j + 1)):=by
  have l1 : (c.take j).length = j:=by simp; omega
  have l2 : (c.take (j + 1)).length = j + 1:=by simp; omega
  unfold splice;rw [l1,l2,List.take_succ_eq_append_getElem hj];rw [List.set_append,if_neg (by simp; omega)];rw [show q + j - (l.take q).length = j by simp; omega];rw [List.set_append,if_neg (by omega),l1,Nat.sub_self,List.drop_eq_getElem_cons (by omega : q + j < l.length),List.append_assoc];rfl
theorem lay_step (row b : List UInt8) (q j : Nat) (x : UInt8) (hj : j < b.length) (hq : q + b.length ≤ row.length) (hx : b.getD j 0 = x) : (u8s (splice row q (b.take j))).set (q + j) (.int .u8 (x.toNat : Int)) = u8s (splice row q (b.take (j + 1))):=by
  have e : b[j] = x:=by rw [← hx]; simp [List.getD,List.getElem?_eq_getElem hj]
  rw [← splice_step row b q j hj hq,e];unfold u8s;rw [List.map_set]
theorem rwrite_no (A P A2 : Option Addr) (L c K d n c2 : Nat) (p : Int) (w : World) (hL : L ≤ 65536) (hn : n ≤ 65536) (hno : okB L p n = false ∨ n = 0) :
    Calls Tryz.prog 24 #[.agg #[.slice A L c,.slice P K d],.int .i64 p,.slice A2 n c2] w fun e w' => e = .returned (.tuple #[.agg #[.slice A L c,.slice P K d],.int .i64 (codeF (okB L p n))]) ∧ Below w.heap.size w w':=by
  cases ok : okB L p n with
  | false =>
    clear hno;rw [codeF_no];go_enter Tryz.func24,Tryz.ntmps24;(go_wp2_with fail);refine (rthere_any _ _ _ _ _ _ _ _ _ (by omega) (by omega)).mono ?_;rw [ok];rintro e w1 ⟨rfl,b1⟩;obtain ⟨k0,k1⟩:=box_two w (.slice A L c) (.slice P K d) (.slice none 0 0) (.slice none 0 0) 29 29;obtain ⟨q0,q1,_,_⟩:=(k0.keep b1).use;obtain ⟨q2,q3,q4,q5⟩:=(k1.keep b1).use;have HG:=zqh ((k1.keep b1).got (.slice A L c) (.slice P K d));have HB:=zqh (below_two b1);clear k0 k1 b1;(go_wp2_with fail);refine bodyPost_ret (v:=.tuple #[.agg #[.slice A L c,.slice P K d],.int .i64 (-9)]) ?_ rfl ?_
    · obtain ⟨r0,r1⟩:=HG.out
      simp [results,Tryz.results24,go_sem,r0,r1]
    · exact ⟨rfl,(HB.out.setCell (by simp) _).setCell (by simp) _⟩
  | true =>
    have h0 : n = 0:=hno.resolve_left (by simp [ok]);subst h0;clear hno;rw [codeF_yes];go_enter Tryz.func24,Tryz.ntmps24;(go_wp2_with fail);refine (rthere_any _ _ _ _ _ _ _ _ _ (by omega) (by omega)).mono ?_;rw [show okB L p 0 = true from ok];rintro e w1 ⟨rfl,b1⟩;obtain ⟨k0,k1⟩:=box_two w (.slice A L c) (.slice P K d) (.slice none 0 0) (.slice none 0 0) 29 29;obtain ⟨q0,q1,_,_⟩:=(k0.keep b1).use;obtain ⟨q2,q3,q4,q5⟩:=(k1.keep b1).use;have HG:=zqh ((k1.keep b1).got (.slice A L c) (.slice P K d));have HB:=zqh (below_two b1);clear k0 k1 b1;(go_wp2_with fail);refine bodyPost_ret (v:=.tuple #[.agg #[.slice A L c,.slice P K d],.int .i64 0]) ?_ rfl ?_
    · obtain ⟨r0,r1⟩:=HG.out
      simp [results,Tryz.results24,go_sem,r0,r1]
    · exact ⟨rfl,(HB.out.setCell (by simp) _).setCell (by simp) _⟩
theorem rwrite_yes (A P A2 : Option Addr) (L c K d n c2 q : Nat) (m : PM) (b : List UInt8) (w : World) (HM : Hid (IsMem w (.agg #[.slice A L c,.slice P K d]) m)) (HU : Hid (Byt w (.slice A2 n c2) b)) (hL : L ≤ 65536) (hK : K < 1000) (hn0 : 0 < n) (hq : q + n ≤ L) (ok : okB L q n = true) :
    Calls Tryz.prog 24 #[.agg #[.slice A L c,.slice P K d],.int .i64 (q : Int),.slice A2 n c2] w fun e w' => ∃ x y,e = .returned (.tuple #[.agg #[x,y],.int .i64 0]) ∧ IsMem w' (.agg #[x,y]) (writeF m q b) ∧ Below w.heap.size w w':=by
  have hz : ((n : Int) == 0) = false:=by simp; omega
  obtain ⟨i0,hi,hz0,hz1,hz2⟩:=info_parts info_u8;obtain ⟨j0,hj,hy0,hy1,hy2⟩:=info_parts info_patch;have hlb : Hid (b.length = n):=HU.out.len;go_enter Tryz.func24,Tryz.ntmps24;(go_wp2_with fail);refine (rthere_any _ _ _ _ _ _ _ _ _ (by omega) (by omega)).mono ?_;rw [ok];rintro e w1 ⟨rfl,b1⟩;obtain ⟨k0,k1⟩:=box_two w (.slice A L c) (.slice P K d) (.slice none 0 0) (.slice none 0 0) 29 29;have K0:=zqh (k0.keep b1);have K1:=zqh (k1.keep b1);obtain ⟨q0,q1,_,_⟩:=(k0.keep b1).use;have HB:=zqh (below_two b1);clear k0 k1 b1;(go_wp2_with fail);refine (rtext_at _ _ _ _ _ _ m _ _ _ (HM.out.keep HB.out) hL (by omega)).mono ?_;rw [ok,codeF_yes];rintro e w2 ⟨B,k,e',rfl,hu2,b2⟩;have K2:=zqh (K0.out.keep b2);have K3:=zqh (K1.out.keep b2);have HT:=zqh hu2;have HB2:=zqh (below_then HB.out b2);have HL2:=zqh (HM.out.keep HB2.out).byt.lies;clear q0 q1 hu2 b2;obtain ⟨q0,q1,_,_⟩:=K2.out.use;have hlt0:=K2.out.lt;have hlt1:=K3.out.lt;obtain ⟨X,hX⟩ : ∃ X,X = u8s m.1:=⟨_,rfl⟩;have HX : Hid (X.length = L):=by rw [hX,u8s_len]; exact HM.out.len1
  have H1 : Hid (∀ v ∈ X,v.oneCell' = true):=by rw [hX]; exact u8s_one m.1
  rw [← hX] at HL2;have HE:=zqh hX;clear hX;(go_wp2_with (at_builtin; refine wpList_append_lies rfl _ _ 26 rfl w2.heap.size 5 i0 (.int .u8 0) 1 1 Tryz.underlying26 hi hz0 hz1 hz2 rfl (by decide) _ _ _ rfl (World.ownsRow_lit w2 #[] 0 (Nat.le_refl _) (by unfold maxLen; omega) rfl) A L c X rfl ?c1 ?c2 ?c3 ?c4 ?c5 ?c6 ?_))
  case c1 => rw [HX.out]; omega
  case c2 => exact HL2.out.keep ((Below.refl _ _).alloc (Nat.le_refl _) _)
  case c3 => exact H1.out
  case c4 => unfold maxLen; omega
  case c5 => omega
  case c6 => simp
  intro v3 w3 hown hgrow;have hB3 : Below w2.heap.size w2 w3:=((Below.refl w2.heap.size w2).alloc (Nat.le_refl _) _).grown hgrow (by simp) (fun k hk => by cases hk; exact Nat.le_refl _);have hown' : w3.ownsRow w2.heap.size 5 1 v3 L X:=by simpa using hown
  obtain ⟨g,cap,rfl,hg2,hg3⟩:=hown'.form (by omega);have HO:=zqh hown';have HB3:=zqh hB3;clear hown hgrow hB3 hown' q0 q1;(go_wp2_with fail)
  go_loopw [12] (fun i wr => ∃ j : Nat,j ≤ n ∧ i = .int .i64 (j : Int) ∧ wr.ownsRow w2.heap.size 5 1 (.slice (some ⟨g,0,none⟩) L cap) L (u8s (splice m.1 q (b.take j))) ∧ Below w2.heap.size w2 wr) (fun i _ => n - (intOf i).toNat)
  case atStart => exact ⟨0,Nat.zero_le _,rfl,by simpa [splice,← HE.out] using HO.out,HB3.out⟩
  case round =>
    obtain ⟨j,hj',rfl,hown,hb⟩:=hrel
    by_cases hlt : j < n
    · obtain ⟨g5,o5,rfl,hg5,hc5⟩ : ∃ g5 o5,A2 = some ⟨g5,o5,none⟩ ∧ g5 < w.heap.size ∧ w.cell? ⟨g5,o5 + j,none⟩ = some (.int .u8 ((b.getD j 0).toNat : Int)):=by
        have hl:=hlb.out
        rcases HU.out.lies with e | ⟨g5,o5,e,hg,hc⟩
        · have:=congrArg List.length e
          rw [u8s_len,hl] at this;simp at this;omega
        · refine ⟨g5,o5,e,hg,hc j _ ?_⟩
          rw [u8s_at (by omega)];simp [List.getD,List.getElem?_eq_getElem (by omega : j < b.length)]
      obtain ⟨x,hx⟩ : ∃ x : UInt8,b.getD j 0 = x:=⟨_,rfl⟩;rw [hx] at hc5;have HX5:=zqh hx;have hc6 : wr.cell? ⟨g5,o5 + j,none⟩ = some (.int .u8 (x.toNat : Int)):=(((HB2.out.trans (hb.mono HB2.out.size)).cell (p:=⟨g5,o5 + j,none⟩) hg5)).trans hc5;have hcl:=hown.cellAt (q + j) (by omega);obtain ⟨y,hy⟩ : ∃ y,(u8s (splice m.1 q (b.take j)))[q + j]? = some y:=by
        refine ⟨_,u8s_at ?_⟩;have:=hlb.out;have:=HM.out.len1;rw [length_splice _ _ _ (by simp; omega)];omega
      have hc7 : wr.cell? ⟨g,q + j,none⟩ = some y:=hcl.trans hy;have hf7 : wr.frozen? ⟨g,q + j,none⟩ = false:=hown.frozenAt (q + j);obtain ⟨hst,hgr⟩:=hown.stored (q + j) (.int .u8 (x.toNat : Int));have hlc : L ≤ cap:=by
        rcases hown.2 with ⟨h,_⟩ | ⟨g',cap',cur,e,_,_,h,_⟩
        · cases h
        · injection e with _ _ e
          omega
      rw [lay_step m.1 b q j x (by rw [hlb.out]; exact hlt) (by rw [hlb.out,HM.out.len1]; exact hq) hx] at hst;have HST:=zqh hst;have HBS : Hid (Below w2.heap.size w2 (wr.setCell ⟨g,q + j,none⟩ (.int .u8 (x.toNat : Int)))):=hb.setCell hg2 _;clear hst hgr hy hcl hx hc5 hown hb;go_wp2
      go_roundw
      case rel => exact ⟨j + 1,by omega,by go_num,HST.out,HBS.out⟩
      case measure => simp [intOf]; omega
    · have hjn : j = n:=by omega
      subst hjn;have hl:=hlb.out;rw [List.take_of_length_le (by omega)] at hown;have HBy:=zqh (own_byt hown);have K4:=zqh (K2.out.keep hb);have K5:=zqh (K3.out.keep hb);have HBr:=zqh hb;have HBw:=zqh (HB2.out.trans (hb.mono HB2.out.size));obtain ⟨q0,q1,_,_⟩:=K4.out.use;obtain ⟨q2,q3,_,_⟩:=K5.out.use;have hlt3:=K4.out.lt;have hlt4:=K5.out.lt;obtain ⟨qs,HQ,hlq,htl⟩ : ∃ qs : List Qt,Hid (qs.length = K) ∧ Lies w P (pc qs) ∧ Tells w qs m.2:=HM.out.patq;have HQL : Hid ((pc qs).length = K * 2):=by have:=HQ.out; show _ = _; rw [pc_len]; omega
      have HLQ:=zqh (hlq.keep HBw.out);have HTQ:=zqh htl;clear hown hb hl hlq htl;(go_wp2_with (first | (at_builtin; refine wpList_append_lies rfl (.tmp 53) (.tmp 55) 27 rfl wr.heap.size 86 j0 (.agg #[.int .i64 0,.slice none 0 0]) 2 32 Tryz.underlying27 hj hy0 hy1 hy2 rfl (by decide) _ _ _ rfl (World.ownsRow_lit wr #[] 0 (Nat.le_refl _) (by unfold maxLen; omega) rfl) P K d (pc qs) rfl ?c1 ?c2 ?c3 ?c4 ?c5 ?c6 ?_)))
      case c1 => exact HQL.out
      case c2 => exact HLQ.out.keep ((Below.refl _ _).alloc (Nat.le_refl _) _)
      case c3 => exact pc_one HTQ.out
      case c4 => unfold maxLen; omega
      case c5 => omega
      case c6 => simp
      intro v5 w5 hown5 hgrow5;have hB5 : Below wr.heap.size wr w5:=((Below.refl wr.heap.size wr).alloc (Nat.le_refl _) _).grown hgrow5 (by simp) (fun k hk => by cases hk; exact Nat.le_refl _);have hown5' : w5.ownsRow wr.heap.size 86 2 v5 K (pc qs):=by simpa using hown5
      have HB5:=zqh hB5;have K6:=zqh (K5.out.keep hB5);have hlt5:=K6.out.lt;have hlt6:=hB5.size;clear hown5 hgrow5 hB5 q0 q1 q2 q3;(go_wp2_with (first | (at_builtin; refine wpList_append_lies rfl (.tmp 56) (.tmp 60) 27 rfl wr.heap.size 86 j0 (.agg #[.int .i64 0,.slice none 0 0]) 2 32 Tryz.underlying27 hj hy0 hy1 hy2 rfl (by decide) _ _ _ rfl (hown5'.alloc _) (some ⟨w5.heap.size,0,none⟩) 1 1 (pc [((q : Int),.slice B k e')]) rfl ?c1 ?c2 ?c3 ?c4 ?c5 ?c6 ?_)))
      case c1 => rfl
      case c2 => exact lies_block (t:=86) (one_new _ _ _)
      case c3 => intro u hu; simp [pc] at hu; rcases hu with rfl | rfl <;> rfl
      case c4 => unfold maxLen; omega
      case c5 => omega
      case c6 => simp; omega
      intro v6 w6 hown6 hgrow6;have hB6 : Below wr.heap.size wr w6:=(HB5.out.alloc HB5.out.size _).grown hgrow6 (by simp; omega) (own_from hown5');have HB6:=zqh hB6;have K7:=zqh (K5.out.keep hB6);obtain ⟨q2,q3,q4,q5⟩:=(K5.out.keep hB6).use;have HO6:=zqh hown6;obtain ⟨g6,cap6,rfl,_,_⟩:=hown6.form (by omega);clear hown6 hgrow6 hB6 hown5';go_wp2;refine bodyPost_ret (v:=.tuple #[.agg #[.slice (some ⟨g,0,none⟩) L cap,.slice (some ⟨g6,0,none⟩) (K + 1) cap6],.int .i64 0]) ?_ rfl ?_
      · obtain ⟨r0,r1⟩:=K7.out.got (.slice (some ⟨g,0,none⟩) L cap) (.slice (some ⟨g6,0,none⟩) (K + 1) cap6)
        simp [results,Tryz.results24,go_sem,r0,r1]
      · have hb0 : b ≠ []:=by
          intro e;have:=hlb.out;rw [e] at this;simp at this;omega
        have ok' : okB m.1.length (q : Int) b.length = true:=by rw [HM.out.len1,hlb.out]; exact ok
        have b6 : Below w.heap.size w w6:=HBw.out.trans (HB6.out.mono HBw.out.size);refine ⟨_,_,rfl,IsMem.row (w:=w6) ?_ K7.out (row_put _ _ _ _),(b6.setCell (by simp) _).setCell (by simp) _⟩;rw [writeF_yes ok' hb0];refine mem_mk (HBy.out.keep HB6.out) ?_;refine own_pats (qs:=qs ++ [((q : Int),.slice B k e')]) (by rw [pc_app]; exact HO6.out) (Tells.snoc (p:=((q : Int),textF m q b.length)) (HTQ.out.keep b6) ?_);rw [hlb.out];exact HT.out.keep (HBr.out.trans (HB6.out.mono HBr.out.size))
theorem rwrite_any (v u : Value) (m : PM) (b : List UInt8) (p : Int) (w : World) (h : IsMem w v m) (hu : Byt w u b) (hL : m.1.length ≤ 65536) (hK : m.2.length < 1000) (hb : b.length ≤ 65536) :
    Calls Tryz.prog 24 #[v,.int .i64 p,u] w fun e w' => ∃ x y,e = .returned (.tuple #[.agg #[x,y],.int .i64 (codeF (okB m.1.length p b.length))]) ∧ IsMem w' (.agg #[x,y]) (writeF m p b) ∧ Below w.heap.size w w':=by
  have h':=h;obtain ⟨A,c,P,d,rfl,_,_⟩:=h.parts;have hu':=hu;obtain ⟨A2,c2,rfl⟩:=hu.form
  by_cases hn : okB m.1.length p b.length = false ∨ b.length = 0
  · refine (rwrite_no A P A2 _ c _ d _ c2 p w hL hb hn).mono fun e w' ⟨he,hw⟩ => ⟨_,_,he,?_,hw⟩
    have e : writeF m p b = m:=by
      rcases hn with hn | hn
      · exact writeF_no hn
      · rw [List.eq_nil_of_length_eq_zero hn]; exact writeF_nil
    rw [e];exact h'.keep hw
  · have ok : okB m.1.length p b.length = true:=by
      cases e : okB m.1.length p b.length with
      | true => rfl
      | false => exact absurd (.inl e) hn
    have hok:=(okB_iff _ _ _).1 ok;obtain ⟨q,rfl⟩:=Int.eq_ofNat_of_zero_le (by omega : 0 ≤ p);rw [ok,codeF_yes];exact rwrite_yes A P A2 _ c _ d _ c2 q m b w h' hu' hL hK (by omega) (by omega) ok


def bytesTo (U k : Nat) : List Value:=(List.range k).map fun i => Value.int .u8 (byteOf U i : Int)
theorem bytesTo_succ (U k : Nat) : bytesTo U (k + 1) = bytesTo U k ++ [.int .u8 (byteOf U k : Int)]:=by
  unfold bytesTo; rw [List.range_succ,List.map_append]; rfl
theorem bytesTo_eight (U : Nat) : bytesTo U 8 = [.int .u8 (byteOf U 0 : Int),.int .u8 (byteOf U 1 : Int),.int .u8 (byteOf U 2 : Int),.int .u8 (byteOf U 3 : Int),.int .u8 (byteOf U 4 : Int),.int .u8 (byteOf U 5 : Int),.int .u8 (byteOf U 6 : Int),.int .u8 (byteOf U 7 : Int)]:=rfl
theorem Tryz.info5 : (Tryz.prog.info? 5).map (fun i => (i.zero,i.size,i.bytes)) = some (some (.int .u8 0),1,1):=by kernel_rfl
theorem rput_any (n : Int) (w : World) :
    Calls Tryz.prog 25 #[.int .i64 n] w fun e w' => ∃ v,e = .returned v ∧ w'.ownsRow w.heap.size 5 1 v 8 (bytesTo (un n) 8) ∧ Below w.heap.size w w':=by
  have e1:=un_cast n;obtain ⟨i0,hi,hz0,hz1,hz2⟩:=info_parts Tryz.info5;go_enter Tryz.func25,Tryz.ntmps25;go_wp2
  go_loopw [3,4,5] (fun u v i wr => ∃ k : Nat,k ≤ 8 ∧ i = .int .i64 (k : Int) ∧ u = .int .u64 ((un n / 256 ^ k : Nat) : Int) ∧ wr.ownsRow w.heap.size 5 1 v k (bytesTo (un n) k) ∧ Below w.heap.size w wr) (fun _ _ i _ => 8 - (intOf i).toNat)
  case atStart => exact ⟨0,Nat.zero_le _,rfl,by simp,World.ownsRow_nil _ _ _ _,Below.refl _ _⟩
  case round =>
    obtain ⟨k,hk,rfl,rfl,hown,hb⟩:=hrel;obtain ⟨b,hbk⟩ : ∃ b : Nat,byteOf (un n) k = b:=⟨_,rfl⟩;have hbk' : un n / 256 ^ k % 256 = b:=hbk;have hnext : un n / 256 ^ (k + 1) = un n / 256 ^ k / 256:=by rw [Nat.pow_succ,← Nat.div_div_eq_div_mul]
    have hlow : un n / 256 ^ k < 18446744073709551616:=Nat.lt_of_le_of_lt (Nat.div_le_self _ _) (un_lt n);generalize un n / 256 ^ k = t at *;have et : (t : Int) % 256 = (b : Int):=by omega
    have ht : (t : Int) ≤ 18446744073709551615:=by omega
    have hb8 : (b : Int) ≤ 255:=by omega
    have HB:=zqh hbk;have HN:=zqh hnext;clear hbk hbk' hnext hlow
    by_cases hlt : k < 8
    · go_wp2_with (at_builtin; refine wpList_append_own _ rfl _ _ 26 rfl w.heap.size 5 i0 (.int .u8 0) 1 1 Tryz.underlying26 hi hz0 hz1 hz2 rfl (by decide) _ _ _ rfl (hown.alloc _) ⟨wr.heap.size,0,none⟩ 1 1 [.int .u8 (b : Int)] rfl rfl ?c1 ?c2 ?c3 ?c4 ?c5 ?_)
      case c1 => exact cell_one_new _ _ _
      case c2 => simp [Value.oneCell']
      case c3 => unfold maxLen; omega
      case c4 => omega
      case c5 => have:=hb.size; simp; omega
      intro v' w2 hown2 hgrow _;have hb2 : Below w.heap.size w w2:=(hb.alloc hb.size _).grown hgrow (by have:=hb.size; simp; omega) (own_from hown);rw [← HB.out,← bytesTo_succ] at hown2;clear hown hb hgrow;go_wp2
      go_roundw
      case rel => exact ⟨k + 1,by omega,by go_num,by rw [HN.out]; go_num,hown2,hb2⟩
      case measure => simp [intOf]; omega
    · have hk8 : k = 8:=by omega
      subst hk8;go_wp2;go_ret;exact ⟨_,rfl,hown,hb⟩
def cellBytes (n : Int) : List UInt8:=[UInt8.ofNat (byteOf (un n) 0),UInt8.ofNat (byteOf (un n) 1),UInt8.ofNat (byteOf (un n) 2),UInt8.ofNat (byteOf (un n) 3),UInt8.ofNat (byteOf (un n) 4),UInt8.ofNat (byteOf (un n) 5),UInt8.ofNat (byteOf (un n) 6),UInt8.ofNat (byteOf (un n) 7)]
theorem cellBytes_len (n : Int) : (cellBytes n).length = 8:=rfl
theorem u8_byte (n i : Nat) : (UInt8.ofNat (byteOf n i)).toNat = byteOf n i:=by
  rw [UInt8.toNat_ofNat'];exact Nat.mod_eq_of_lt (byteOf_lt _ _)
theorem cellBytes_u8 (n : Int) : u8s (cellBytes n) = bytesTo (un n) 8:=by
  rw [bytesTo_eight];simp only [u8s,cellBytes,List.map_cons,List.map_nil,u8_byte]
theorem put_byt (n : Int) (w : World) : Calls Tryz.prog 231 #[.int .i64 n] w fun e w' => ∃ B k c,e = .returned (.slice B k c) ∧ Byt w' (.slice B k c) (cellBytes n) ∧ Below w.heap.size w w':=by
  refine (put_any n w).mono fun e w' ⟨g,he,_,hh,hb⟩ => ⟨_,_,_,he,?_,hb⟩
  refine byt_block (l:=cellBytes n) (t:=5) ?_ (by rw [cellBytes_len]; omega);rw [cellBytes_u8,bytesTo_eight];exact hh
theorem rput_byt (n : Int) (w : World) : Calls Tryz.prog 25 #[.int .i64 n] w fun e w' => ∃ B k c,e = .returned (.slice B k c) ∧ Byt w' (.slice B k c) (cellBytes n) ∧ Below w.heap.size w w':=by
  refine (rput_any n w).mono fun e w' ⟨v,he,ho,hb⟩ => ?_
  rw [← cellBytes_u8] at ho;obtain ⟨B,c,rfl⟩:=(own_byt ho).form;exact ⟨B,_,c,he,own_byt ho,hb⟩
def bn (m : PM) (k : Nat) : Nat:=(m.1.getD k 0).toNat
theorem bn_lt (m : PM) (k : Nat) : bn m k < 256:=UInt8.toNat_lt _
def fetchF (m : PM) (p : Int) : Int:=if cellC m.1.length p = 0 then wrap64 (eight (bn m p.toNat) (bn m (p.toNat + 1)) (bn m (p.toNat + 2)) (bn m (p.toNat + 3)) (bn m (p.toNat + 4)) (bn m (p.toNat + 5)) (bn m (p.toNat + 6)) (bn m (p.toNat + 7)) : Int) else 0
theorem mem_cells {w : World} {A : Option Addr} {L c : Nat} {y : Value} {m : PM} (h : IsMem w (.agg #[.slice A L c,y]) m) (hL : 0 < L) : ∃ g o,A = some ⟨g,o,none⟩ ∧ g < w.heap.size ∧ L ≤ c ∧ ∀ q,q < L → w.cell? ⟨g,o + q,none⟩ = some (.int .u8 (bn m q : Int)):=by
  obtain ⟨g,o,rfl,hg,_,hc⟩:=mem_cell h hL;refine ⟨g,o,rfl,hg,hc,fun q hq => ?_⟩;obtain ⟨g',o',e,_,hc',_⟩:=mem_cell h hq;injection e with e
  injection e with e1 e2
  subst e1 e2;exact hc'
theorem fetch_at (A P : Option Addr) (L c K d : Nat) (m : PM) (p : Int) (w : World) (HM : Hid (IsMem w (.agg #[.slice A L c,.slice P K d]) m)) (hL : L ≤ 65536) :
    Calls Tryz.prog 38 #[.agg #[.slice A L c,.slice P K d],.int .i64 p] w fun e w' => e = .returned (.tuple #[.int .i64 (fetchF m p),.int .i64 (cellC L p)]) ∧ Below w.heap.size w w':=by
  obtain ⟨C,hC⟩ : ∃ C,cellC L p = C:=⟨_,rfl⟩
  by_cases h0 : C = 0
  · subst h0
    have ok : okB L p 8 = true:=by
      cases e : okB L p 8 with
      | true => rfl
      | false => rw [cellC_no e] at hC; cases hC
    have hok:=(okB_iff _ _ _).1 ok;obtain ⟨q,rfl⟩:=Int.eq_ofNat_of_zero_le (by omega : 0 ≤ p);have hq : q + 8 ≤ L:=by omega
    obtain ⟨g,o,rfl,hg,hLc,hcl⟩:=mem_cells HM.out (by omega);have HF : Hid (fetchF m q = wrap64 (eight (bn m q) (bn m (q + 1)) (bn m (q + 2)) (bn m (q + 3)) (bn m (q + 4)) (bn m (q + 5)) (bn m (q + 6)) (bn m (q + 7)) : Int)):=by unfold fetchF; rw [if_pos (by rw [HM.out.len1]; exact hC)]; rfl
    have HC:=zqh hC;have hne : c ≠ q:=by omega
    have HCL:=zqh hcl;clear hC hok ok hcl;go_enter Tryz.func38,Tryz.ntmps38;(go_wp2_with fail);refine (cellCode_any _ _ _ _ _ _ _ _ hL).mono ?_;rw [HC.out];rintro e w1 ⟨rfl,b1⟩;obtain ⟨k0,k1⟩:=box_cells b1;have HB:=zqh (box_below b1);clear b1;(go_wp2_with fail);refine (get_yes ⟨g,o + q,none⟩ _ (bn m q) (bn m (q + 1)) (bn m (q + 2)) (bn m (q + 3)) (bn m (q + 4)) (bn m (q + 5)) (bn m (q + 6)) (bn m (q + 7)) _ (Nat.lt_of_lt_of_le hg HB.out.size) (bn_lt _ _) (bn_lt _ _) (bn_lt _ _) (bn_lt _ _) (bn_lt _ _) (bn_lt _ _) (bn_lt _ _) (bn_lt _ _) (zqh ?_)).mono ?_
    · intro j v hv
      rw [add_at,HB.out.cell (p:=⟨g,o + q + j,none⟩) hg]
      match j,hv with
      | 0,hv => simp at hv; rw [← hv]; exact HCL.out q (by omega)
      | 1,hv => simp at hv; rw [← hv]; exact HCL.out (q + 1) (by omega)
      | 2,hv => simp at hv; rw [← hv]; exact HCL.out (q + 2) (by omega)
      | 3,hv => simp at hv; rw [← hv]; exact HCL.out (q + 3) (by omega)
      | 4,hv => simp at hv; rw [← hv]; exact HCL.out (q + 4) (by omega)
      | 5,hv => simp at hv; rw [← hv]; exact HCL.out (q + 5) (by omega)
      | 6,hv => simp at hv; rw [← hv]; exact HCL.out (q + 6) (by omega)
      | 7,hv => simp at hv; rw [← hv]; exact HCL.out (q + 7) (by omega)
      | j + 8,hv => simp at hv
    rw [← HF.out];rintro e w2 ⟨rfl,b2⟩;have HB2:=zqh b2;clear b2;(go_wp2_with fail);go_ret2;exact ⟨by rw [HC.out]; rfl,below_then HB.out HB2.out⟩
  · have hF : fetchF m p = 0:=by unfold fetchF; rw [if_neg (by rw [HM.out.len1,hC]; exact h0)]
    rw [hF,hC];have HC:=zqh hC;have h0' : (C != 0) = true:=by simp [h0]
    clear hC hF h0;go_enter Tryz.func38,Tryz.ntmps38;(go_wp2_with fail);refine (cellCode_any _ _ _ _ _ _ _ _ hL).mono ?_;rw [HC.out];rintro e w1 ⟨rfl,b1⟩;have HB:=zqh (box_below b1);clear b1;(go_wp2_with fail);go_ret2;exact ⟨rfl,HB.out⟩
end Go.Proofs.YtcmldhjicjmmgaaGreatDoor
