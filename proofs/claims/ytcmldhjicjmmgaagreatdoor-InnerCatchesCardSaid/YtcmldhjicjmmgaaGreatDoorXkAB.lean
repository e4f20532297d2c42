/- Part 2. -/
import Derived.Test.YtcmldhjicjmmgaaGreatDoorXkAA
import Derived.Maps.AppendAt
import Derived.Deep.AppendLies
set_option linter.unusedVariables false
set_option linter.unusedSimpArgs false
set_option maxRecDepth 100000
set_option maxHeartbeats 4000000

namespace Go.Proofs.YtcmldhjicjmmgaaGreatDoor
open Go.RowKit


def Box (w : World) (b : Nat) (x y : Value) (t : TypeId) : Prop:=w.heap[b]? = some (.cells #[x,y] t (0,0))
theorem Box.lt {w : World} {b : Nat} {x y : Value} {t : TypeId} (h : Box w b x y t) : b < w.heap.size:=(Array.getElem?_eq_some_iff.1 h).1
theorem Box.keep {w w' : World} {b : Nat} {x y : Value} {t : TypeId} (h : Box w b x y t) (k : Below w.heap.size w w') : Box w' b x y t:=(k.block b h.lt).trans h
theorem Box.row {w w' : World} {b g : Nat} {x y : Value} {t : TypeId} (h : Box w b x y t) (k : RowSet g w w') (hb : b ≠ g) : Box w' b x y t:=(k.other b hb).trans h
theorem Box.use {w : World} {b : Nat} {x y : Value} {t : TypeId} (h : Box w b x y t) : w.cell? ⟨b,0,none⟩ = some x ∧ w.cell? ⟨b,1,none⟩ = some y ∧ w.frozen? ⟨b,0,none⟩ = false ∧ w.frozen? ⟨b,1,none⟩ = false:=by
  unfold Box at h;refine ⟨?_,?_,?_,?_⟩ <;> simp [World.cell?,World.frozen?,h]
theorem box_new (w : World) (x y : Value) (t : TypeId) : Box (w.alloc (.cells #[x,y] t)) w.heap.size x y t:=one_new w _ t
theorem box_two (w : World) (x y x' y' : Value) (t t' : TypeId) : Box ((w.alloc (.cells #[x,y] t)).alloc (.cells #[x',y'] t')) w.heap.size x y t ∧ Box ((w.alloc (.cells #[x,y] t)).alloc (.cells #[x',y'] t')) (w.heap.size + 1) x' y' t' :=
  ⟨(two_new w _ _ _ _).2,(two_new w _ _ _ _).1⟩
theorem below_two {w w1 : World} {o o' : Obj} (b : Below ((w.alloc o).alloc o').heap.size ((w.alloc o).alloc o') w1) : Below w.heap.size w w1 :=
  (((Below.refl _ w).alloc (Nat.le_refl _) o).alloc (by simp) o').trans (b.mono (by simp; omega))
theorem Box.put {w : World} {b : Nat} {x y : Value} {t : TypeId} (h : Box w b x y t) (x' y' : Value) : Box ((w.setCell ⟨b,0,none⟩ x').setCell ⟨b,1,none⟩ y') b x' y' t:=by
  have h1 : (w.setCell ⟨b,0,none⟩ x').heap[b]? = some (.cells (#[x,y].setIfInBounds 0 x') t (0,0)):=Go.Joins.block_setCell h x';have h2:=Go.Joins.block_setCell (i:=1) h1 y';simpa [Box] using h2
theorem Box.got {w : World} {b : Nat} {x y : Value} {t : TypeId} (h : Box w b x y t) (x' y' : Value) : (w.setCell ⟨b,0,none⟩ x').cell? ⟨b,0,none⟩ = some x' ∧ ((w.setCell ⟨b,0,none⟩ x').setCell ⟨b,1,none⟩ y').cell? ⟨b,1,none⟩ = some y':=by
  constructor
  · have h1 : (w.setCell ⟨b,0,none⟩ x').heap[b]? = some (.cells (#[x,y].setIfInBounds 0 x') t (0,0)):=Go.Joins.block_setCell h x'
    simp [World.cell?,h1]
  · exact (h.put x' y').use.2.1
theorem Byt.len {w : World} {A : Option Addr} {n c : Nat} {l : List UInt8} (h : Byt w (.slice A n c) l) : l.length = n:=by
  obtain ⟨A',c',e,_⟩:=h;injection e with _ e _
  exact e.symm
theorem Byt.lies {w : World} {A : Option Addr} {n c : Nat} {l : List UInt8} (h : Byt w (.slice A n c) l) : Lies w A (u8s l):=by
  obtain ⟨A',c',e,_,_,hl⟩:=h;injection e with e _ _
  subst e;exact hl
theorem Byt.form {w : World} {u : Value} {l : List UInt8} (h : Byt w u l) : ∃ A c,u = .slice A l.length c:=by
  obtain ⟨A,c,e,_⟩:=h;exact ⟨A,c,e⟩
theorem IsMem.byt {w : World} {x y : Value} {m : PM} (h : IsMem w (.agg #[x,y]) m) : Byt w x m.1:=by
  obtain ⟨x',y',e,hb,_⟩:=h;injection e with e
  simp at e;rw [e.1];exact hb
theorem IsMem.pats {w : World} {x y : Value} {m : PM} (h : IsMem w (.agg #[x,y]) m) : Pats w y m.2:=by
  obtain ⟨x',y',e,_,hb⟩:=h;injection e with e
  simp at e;rw [e.2];exact hb
theorem IsMem.len1 {w : World} {A : Option Addr} {L c : Nat} {y : Value} {m : PM} (h : IsMem w (.agg #[.slice A L c,y]) m) : m.1.length = L:=h.byt.len
theorem IsMem.len2 {w : World} {P : Option Addr} {K d : Nat} {x : Value} {m : PM} (h : IsMem w (.agg #[x,.slice P K d]) m) : m.2.length = K:=by
  obtain ⟨A',c',qs,e,_⟩:=h.pats;injection e with _ e _
  exact e.symm
theorem IsMem.patq {w : World} {P : Option Addr} {K d : Nat} {x : Value} {m : PM} (h : IsMem w (.agg #[x,.slice P K d]) m) : ∃ qs : List Qt,Hid (qs.length = K) ∧ Lies w P (pc qs) ∧ Tells w qs m.2:=by
  have e2:=h.len2;obtain ⟨A',c',qs,e,_,_,hl,ht⟩:=h.pats;injection e with e _ _
  subst e;exact ⟨qs,ht.1.trans e2,hl,ht⟩
theorem mem_mk {w : World} {x y : Value} {m : PM} (h : Byt w x m.1) (k : Pats w y m.2) : IsMem w (.agg #[x,y]) m:=⟨x,y,rfl,h,k⟩
theorem Box.two {w : World} {b : Nat} {A P : Option Addr} {n c k d : Nat} {t : TypeId} (h : Box w b (.slice A n c) (.slice P k d) t) {o : Nat} {v : Value} (hc : w.cell? ⟨b,o,none⟩ = some v) : ∃ A n c,v = .slice A n c:=by
  unfold Box at h;simp [World.cell?,h] at hc
  match o,hc with
  | 0,hc => simp at hc; exact ⟨_,_,_,hc.symm⟩
  | 1,hc => simp at hc; exact ⟨_,_,_,hc.symm⟩
  | o + 2,hc => simp at hc
theorem Lies.row {w w' : World} {b : Nat} {A P A' : Option Addr} {n c k d : Nat} {t : TypeId} {xs : List Value} (h : Lies w A' xs) (hb : Box w b (.slice A n c) (.slice P k d) t) (rs : RowSet b w w') (hi : ∀ v r,xs = v :: r → ∃ q i,v = .int q i) : Lies w' A' xs:=by
  rcases h with h | ⟨g,o,e,hg,hc⟩
  · exact .inl h
  · match xs,hi,hc with
    | [],_,_ => exact .inl rfl
    | v :: r,hi,hc =>
      have hne : g ≠ b:=by
        intro e;subst e;obtain ⟨q,i,rfl⟩:=hi v r rfl;obtain ⟨_,_,_,hv⟩:=hb.two (hc 0 _ rfl);cases hv
      exact .inr ⟨g,o,e,by rw [rs.size]; exact hg,fun j v hv => (rs.cell hne).trans (hc j v hv)⟩
theorem u8s_head (l : List UInt8) : ∀ v r,u8s l = v :: r → ∃ q i,v = Value.int q i:=by
  intro v r h;cases l with
  | nil => simp [u8s] at h
  | cons x l => simp [u8s] at h; exact ⟨_,_,h.1.symm⟩
theorem pc_head (qs : List Qt) : ∀ v r,pc qs = v :: r → ∃ q i,v = Value.int q i:=by
  intro v r h;cases qs with
  | nil => simp [pc] at h
  | cons x l => rw [pc_cons] at h; injection h with h _; exact ⟨_,_,h.symm⟩
theorem Byt.row {w w' : World} {b : Nat} {A P : Option Addr} {n c k d : Nat} {t : TypeId} {v : Value} {l : List UInt8} (h : Byt w v l) (hb : Box w b (.slice A n c) (.slice P k d) t) (rs : RowSet b w w') : Byt w' v l:=by
  obtain ⟨A',c',h1,h2,h3,h4⟩:=h;exact ⟨A',c',h1,h2,h3,h4.row hb rs (u8s_head l)⟩
theorem Tells.row {w w' : World} {b : Nat} {A P : Option Addr} {n c k d : Nat} {t : TypeId} {qs : List Qt} {ps : List Pt} (h : Tells w qs ps) (hb : Box w b (.slice A n c) (.slice P k d) t) (rs : RowSet b w w') : Tells w' qs ps :=
  ⟨h.1,fun i q p hq hp => ⟨(h.2 i q p hq hp).1,(h.2 i q p hq hp).2.row hb rs⟩⟩
theorem IsMem.row {w w' : World} {b : Nat} {A P : Option Addr} {n c k d : Nat} {t : TypeId} {v : Value} {m : PM} (h : IsMem w v m) (hb : Box w b (.slice A n c) (.slice P k d) t) (rs : RowSet b w w') : IsMem w' v m:=by
  obtain ⟨x,y,h1,h2,A',c',qs,e,h3,h4,h5,h6⟩:=h;exact ⟨x,y,h1,h2.row hb rs,A',c',qs,e,h3,h4,h5.row hb rs (pc_head qs),h6.row hb rs⟩
theorem row_put (w : World) (b : Nat) (x y : Value) : RowSet b w ((w.setCell ⟨b,0,none⟩ x).setCell ⟨b,1,none⟩ y) :=
  ⟨rfl,rfl,rfl,by simp [World.setCell],fun k hk => (Below.heap_setCell _ _ _ k hk).trans (Below.heap_setCell _ _ _ k hk)⟩


theorem cellC_no {L : Nat} {p : Int} (h : okB L p 8 = false) : cellC L p = -9:=by unfold cellC; rw [h]; rfl
theorem cellC_align {L : Nat} {p : Int} (h : okB L p 8 = true) (h8 : p % 8 ≠ 0) : cellC L p = -23:=by unfold cellC; rw [if_pos h,if_neg h8]
theorem cellC_ok {L : Nat} {p : Int} (h : okB L p 8 = true) (h8 : p % 8 = 0) : cellC L p = 0:=by unfold cellC; rw [if_pos h,if_pos h8]
theorem cellCode_any (A P : Option Addr) (L c K d : Nat) (p : Int) (w : World) (hL : L ≤ 65536) :
    Calls Tryz.prog 56 #[.agg #[.slice A L c,.slice P K d],.int .i64 p] w fun e w' => e = .returned (.int .i64 (cellC L p)) ∧ Below w.heap.size w w':=by
  cases ok : okB L p 8 with
  | false =>
    have H:=zqh (cellC_no ok);go_enter Tryz.func56,Tryz.ntmps56;(go_wp2_with (go_at_call 72; (with_reducible refine (there_any _ _ _ _ _ _ _ _ _ (by omega) (by omega)).mono ?_); rintro e w1 ⟨rfl,b1⟩));go_ret;exact ⟨ret_int H.out.symm,box_below b1⟩
  | true =>
    have hok:=(okB_iff _ _ _).1 ok;have h0 : 0 ≤ p:=by omega
    by_cases h8 : p % 8 = 0
    · have H:=zqh (cellC_ok ok h8)
      have h8' : (p % 8 != 0) = false:=by simp [h8]
      clear h8 hok;go_enter Tryz.func56,Tryz.ntmps56;(go_wp2_with (go_at_call 72; (with_reducible refine (there_any _ _ _ _ _ _ _ _ _ (by omega) (by omega)).mono ?_); rintro e w1 ⟨rfl,b1⟩));go_ret;exact ⟨ret_int H.out.symm,box_below b1⟩
    · have H:=zqh (cellC_align ok h8)
      have h8' : (p % 8 != 0) = true:=by simp [h8]
      clear h8 hok;go_enter Tryz.func56,Tryz.ntmps56;(go_wp2_with (go_at_call 72; (with_reducible refine (there_any _ _ _ _ _ _ _ _ _ (by omega) (by omega)).mono ?_); rintro e w1 ⟨rfl,b1⟩));go_ret;exact ⟨ret_int H.out.symm,box_below b1⟩
theorem rcellAt_any (A P : Option Addr) (L c K d : Nat) (p : Int) (w : World) (hL : L ≤ 65536) :
    Calls Tryz.prog 23 #[.agg #[.slice A L c,.slice P K d],.int .i64 p] w fun e w' => e = .returned (.int .i64 (cellC L p)) ∧ Below w.heap.size w w':=by
  cases ok : okB L p 8 with
  | false =>
    have H:=zqh (cellC_no ok);go_enter Tryz.func23,Tryz.ntmps23;(go_wp2_with (go_at_call 36; (with_reducible refine (rthere_any _ _ _ _ _ _ _ _ _ (by omega) (by omega)).mono ?_); rintro e w1 ⟨rfl,b1⟩));go_ret;exact ⟨ret_int H.out.symm,box_below b1⟩
  | true =>
    have hok:=(okB_iff _ _ _).1 ok;have h0 : 0 ≤ p:=by omega
    by_cases h8 : p % 8 = 0
    · have H:=zqh (cellC_ok ok h8)
      have h8' : (p % 8 != 0) = false:=by simp [h8]
      clear h8 hok;go_enter Tryz.func23,Tryz.ntmps23;(go_wp2_with (go_at_call 36; (with_reducible refine (rthere_any _ _ _ _ _ _ _ _ _ (by omega) (by omega)).mono ?_); rintro e w1 ⟨rfl,b1⟩));go_ret;exact ⟨ret_int H.out.symm,box_below b1⟩
    · have H:=zqh (cellC_align ok h8)
      have h8' : (p % 8 != 0) = true:=by simp [h8]
      clear h8 hok;go_enter Tryz.func23,Tryz.ntmps23;(go_wp2_with (go_at_call 36; (with_reducible refine (rthere_any _ _ _ _ _ _ _ _ _ (by omega) (by omega)).mono ?_); rintro e w1 ⟨rfl,b1⟩));go_ret;exact ⟨ret_int H.out.symm,box_below b1⟩
def byteF (m : PM) (p : Int) : Int:=if okB m.1.length p 1 = true then ((m.1.getD p.toNat 0).toNat : Int) else 0
theorem mem_cell {w : World} {A : Option Addr} {L c : Nat} {y : Value} {m : PM} (h : IsMem w (.agg #[.slice A L c,y]) m) {q : Nat} (hq : q < L) : ∃ g o,A = some ⟨g,o,none⟩ ∧ g < w.heap.size ∧ w.cell? ⟨g,o + q,none⟩ = some (.int .u8 ((m.1.getD q 0).toNat : Int)) ∧ L ≤ c:=by
  have hl:=h.len1;have hb:=h.byt;have hlies:=hb.lies;have hc : L ≤ c:=by
    obtain ⟨A',c',e,h2,_⟩:=hb;injection e with _ _ e
    omega
  rcases hlies with e | ⟨g,o,e,hg,hcell⟩
  · have:=congrArg List.length e
    rw [u8s_len,hl] at this;simp at this;omega
  · refine ⟨g,o,e,hg,hcell q _ ?_,hc⟩
    rw [u8s_at (by omega)];simp [List.getD,List.getElem?_eq_getElem (by omega : q < m.1.length)]


theorem wpList_append_lies {P : Program} {w : World} {ops : Array Oper} {rest : List Oper} {o : Oper} {a : Act} {Q : Exit → Act → World → Prop} (hgd : o.guard = none) (s x : Operand) (t : TypeId)
    (ho : o.op = .call { callee:=.builtin .append,args:=#[s,x],argTypes:=#[t,t] })
    (base : Nat) (e : TypeId) (i : TypeInfo) (z : Value) (size bytes : Nat) (ht : P.underlying t = some (.slice e)) (hi : P.info? e = some i) (hz : i.zero = some z)
    (hsize : i.size = size) (hby : i.bytes = bytes) (hzs : z.cells.size = size) (hsz : 0 < size)
    (v : Value) (n : Nat) (xs : List Value) (hs : a.eval s = v) (hown : w.ownsRow base e size v n xs)
    (A : Option Addr) (m c : Nat) (news : List Value) (hx : a.eval x = .slice A m c) (hl : news.length = m * size) (hn : Lies w A news) (h1 : ∀ u ∈ news,u.oneCell' = true)
    (h63 : n + m ≤ maxLen) (hbytes : (n + m) * bytes ≤ 140737488355328) (hbase : base ≤ w.heap.size)
    (h : ∀ v' w',w'.ownsRow base e size v' (n + m) (xs ++ news) → w.grownBy w' v.ownBlock → wpList P ops Q rest (a.put o.dst v') w') : wpList P ops Q (o :: rest) a w:=by
  cases A with
  | some ad =>
    refine wpList_append_own w hgd s x t ho base e i z size bytes ht hi hz hsize hby hzs hsz v n xs hs hown ad m c news hx hl ?_ h1 h63 hbytes hbase fun v' w' h2 h3 _ => h v' w' h2 h3
    intro j u hu
    rcases hn with rfl | ⟨g,o',e',_,hc⟩
    · simp at hu
    · injection e' with e'
      rw [e',add_at];exact hc j u hu
  | none =>
    have hnil : news = []:=by
      rcases hn with h | ⟨_,_,h,_⟩
      · exact h
      · cases h
    subst hnil;have hm : m = 0:=by
      rcases Nat.mul_eq_zero.1 hl.symm with h | h
      · exact h
      · omega
    subst hm;refine wpList_plain hgd fun K hK => ?_
    have hrun : (Builtin.append_ #[t,t] o.type #[v,.slice none 0 c]).run P w = .ok v w:=by
      rcases hown.2 with ⟨rfl,rfl⟩ | ⟨g,cap,cur,rfl,_,_,hnc,_⟩
      · simp [Builtin.append_,run_underlying ht,sizeOf,typeInfo,hi,Builtin.lenOf,Builtin.firstCells]
      · simp [Builtin.append_,run_underlying ht,sizeOf,typeInfo,hi,Builtin.lenOf,Builtin.firstCells,hnc,storeCells]
    unfold Oper.wp;simp [execOp,ho,resolve,invoke,builtin,hs,hx,hrun,Result.andThen];exact hK _ _ (h v w (by simpa using hown) (World.grownBy.refl w _))
theorem own_byt {w : World} {base n : Nat} {v : Value} {l : List UInt8} (h : w.ownsRow base 5 1 v n (u8s l)) : Byt w v l:=by
  have hl:=h.1;rw [u8s_len,Nat.mul_one] at hl;subst hl
  rcases h.2 with ⟨rfl,h0⟩ | ⟨g,cap,cur,rfl,_,hg,hnc,hcm,_,ht⟩
  · have : l = []:=List.eq_nil_of_length_eq_zero h0
    subst this;exact byt_nil w
  · refine ⟨some ⟨g,0,none⟩,cap,rfl,hnc,hcm,.inr ⟨g,0,rfl,(Array.getElem?_eq_some_iff.1 hg).1,fun j x hx => ?_⟩⟩
    rw [← ht,List.getElem?_take] at hx
    split at hx
    · rw [Nat.zero_add]
      simp [World.cell?,hg];simpa using hx
    · cases hx
theorem own_from {w : World} {base e size n : Nat} {v : Value} {xs : List Value} (h : w.ownsRow base e size v n xs) : ∀ k,v.ownBlock = some k → base ≤ k:=fun k hk => (h.lt k hk).1
theorem rtext_at (A P : Option Addr) (L c K d : Nat) (m : PM) (p n : Int) (w : World) (HM : Hid (IsMem w (.agg #[.slice A L c,.slice P K d]) m)) (hL : L ≤ 65536) (hn : n ≤ 9223372036854775807) :
    Calls Tryz.prog 37 #[.agg #[.slice A L c,.slice P K d],.int .i64 p,.int .i64 n] w fun e w' => ∃ B k e',e = .returned (.tuple #[.slice B k e',.int .i64 (codeF (okB L p n))]) ∧ Byt w' (.slice B k e') (textF m p n) ∧ Below w.heap.size w w':=by
  cases ok : okB L p n with
  | false =>
    have H : Hid (textF m p n = []):=textF_no (by rw [HM.out.len1]; exact ok);rw [codeF_no];go_enter Tryz.func37,Tryz.ntmps37;(go_wp2_with (go_at_call 36; (with_reducible refine (rthere_any _ _ _ _ _ _ _ _ _ (by omega) hn).mono ?_); rintro e w1 ⟨rfl,b1⟩));go_ret2;exact ⟨_,_,_,rfl,by rw [H.out]; exact byt_nil _,box_below b1⟩
  | true =>
    have hok:=(okB_iff _ _ _).1 ok;have ok' : okB m.1.length p n = true:=by rw [HM.out.len1]; exact ok
    have HL : Hid ((textF m p n).length = n.toNat):=textF_len ok';have HT:=zqh (textF_yes ok');obtain ⟨T,hT⟩ : ∃ T,T = textF m p n:=⟨_,rfl⟩;rw [← hT] at HL HT ⊢;obtain ⟨k,rfl⟩:=Int.eq_ofNat_of_zero_le (by omega : 0 ≤ n);have hk : k ≤ L:=by omega
    obtain ⟨i0,hi,hz0,hz1,hz2⟩:=info_parts info_u8;rw [codeF_yes];clear hT ok';go_enter Tryz.func37,Tryz.ntmps37;(go_wp2_with fail);refine (rthere_any _ _ _ _ _ _ _ _ _ (by omega) hn).mono ?_;rw [ok];rintro e w1 ⟨rfl,b1⟩;have K0:=zqh ((box_new w (.slice A L c) (.slice P K d) 29).keep b1);have HB:=zqh (box_below b1);have HM1:=zqh (HM.out.keep HB.out);clear b1;(go_wp2_with fail)
    go_loopw [9,10] (fun v i wr => ∃ j : Nat,j ≤ k ∧ i = .int .i64 (j : Int) ∧ wr.ownsRow w1.heap.size 5 1 v j (u8s (T.take j)) ∧ Below w1.heap.size w1 wr) (fun _ i _ => k - (intOf i).toNat)
    case atStart => exact ⟨0,Nat.zero_le _,rfl,by simpa [u8s] using World.ownsRow_nil _ _ _ _,Below.refl _ _⟩
    case round =>
      obtain ⟨j,hj,rfl,hown,hb⟩:=hrel
      by_cases hlt : j < k
      · have h2:=(hok.resolve_left (by omega))
        obtain ⟨q,rfl⟩:=Int.eq_ofNat_of_zero_le h2.2.1;have hqj : q + j < L:=by omega
        obtain ⟨g,o,rfl,hg,hc,hLc⟩:=mem_cell HM1.out hqj;obtain ⟨x,hx⟩ : ∃ x : UInt8,x = m.1.getD (q + j) 0:=⟨_,rfl⟩;rw [← hx] at hc;have HX : Hid (T.take (j + 1) = T.take j ++ [x]):=by
          have hl : j < T.length:=by rw [HL.out]; omega
          rw [List.take_succ_eq_append_getElem hl]
          congr 2
          have e2 : T[j]? = some T[j]:=List.getElem?_eq_getElem hl;rw [hx];have hlm : m.1.length = L:=HM.out.len1;have e3 : T[j]? = m.1[q + j]?:=by
            rw [HT.out,List.getElem?_take,if_pos (by omega),List.getElem?_drop];simp
          rw [e2,List.getElem?_eq_getElem (by omega)] at e3;injection e3 with e3
          rw [e3];simp [List.getD,List.getElem?_eq_getElem (by omega : q + j < m.1.length)]
        obtain ⟨k0,k1,_,_⟩:=(K0.out.keep hb).use;have hc1 : wr.cell? ⟨g,o + (q + j),none⟩ = some (.int .u8 (x.toNat : Int)):=(hb.cell (p:=⟨g,o + (q + j),none⟩) hg).trans hc;clear hx hc h2 hok ok;(go_wp2_with (at_builtin; refine wpList_append_own _ rfl _ _ 26 rfl w1.heap.size 5 i0 (.int .u8 0) 1 1 Tryz.underlying26 hi hz0 hz1 hz2 rfl (by decide) _ _ _ rfl (hown.alloc _) ⟨wr.heap.size,0,none⟩ 1 1 [.int .u8 (x.toNat : Int)] rfl rfl ?c1 ?c2 ?c3 ?c4 ?c5 ?_))
        case c1 => exact cell_one_new _ _ _
        case c2 => simp [Value.oneCell']
        case c3 => unfold maxLen; omega
        case c4 => omega
        case c5 => have:=hb.size; simp; omega
        intro v' w2 hown2 hgrow _;have hb2 : Below w1.heap.size w1 w2:=(hb.alloc hb.size _).grown hgrow (by have:=hb.size; simp; omega) (own_from hown);have hown3 : w2.ownsRow w1.heap.size 5 1 v' (j + 1) (u8s (T.take (j + 1))):=by rw [HX.out,u8s_app]; exact hown2
        have HO:=zqh hown3;clear hown hb hgrow hown2 hown3 hc1 k0 k1;go_wp2
        go_roundw
        case rel => exact ⟨j + 1,by omega,by go_num,HO.out,hb2⟩
        case measure => simp [intOf]; omega
      · have hjk : j = k:=by omega
        subst hjk;have hl:=HL.out;rw [List.take_of_length_le (by rw [hl]; simp)] at hown;have HO:=zqh (own_byt hown);have HB2:=zqh hb;obtain ⟨B,e',rfl⟩:=(own_byt hown).form;clear hown hb hl hok;go_wp2;go_ret2;exact ⟨_,_,_,rfl,HO.out,below_then HB.out HB2.out⟩


theorem own_pats {w : World} {base n : Nat} {v : Value} {qs : List Qt} {ps : List Pt} (h : w.ownsRow base 86 2 v n (pc qs)) (ht : Tells w qs ps) : Pats w v ps:=by
  have hl:=h.1;rw [pc_len] at hl;have hq:=ht.1;obtain rfl : n = ps.length:=by omega
  rcases h.2 with ⟨rfl,h0⟩ | ⟨g,cap,cur,rfl,_,hg,hnc,hcm,_,htk⟩
  · have : ps = []:=List.eq_nil_of_length_eq_zero h0
    subst this;have : qs = []:=List.eq_nil_of_length_eq_zero hq;subst this;exact pats_nil w
  · refine ⟨some ⟨g,0,none⟩,cap,qs,rfl,hnc,hcm,.inr ⟨g,0,rfl,(Array.getElem?_eq_some_iff.1 hg).1,fun j x hx => ?_⟩,ht⟩
    rw [← htk,List.getElem?_take] at hx
    split at hx
    · rw [Nat.zero_add]
      simp [World.cell?,hg];simpa using hx
    · cases hx
theorem splice_step {α : Type} (l c : List α) (q j : Nat) (hj : j < c.length) (hq : q + c.length ≤ l.length) : (splice l q (c.take j)).set (q + j) c[j] = splice l q (c.take (j + 1)):=by
  have l1 : (c.take j).length = j:=by simp; omega
  have l2 : (c.take (j + 1)).length = j + 1:=by simp; omega
  unfold splice;rw [l1,l2,List.take_succ_eq_append_getElem hj];rw [List.set_append,if_neg (by simp; omega)];rw [show q + j - (l.take q).length = j by simp; omega];rw [List.set_append,if_neg (by omega),l1,Nat.sub_self,List.drop_eq_getElem_cons (by omega : q + j < l.length),List.append_assoc];rfl
theorem lay_step (row b : List UInt8) (q j : Nat) (x : UInt8) (hj : j < b.length) (hq : q + b.length ≤ row.length) (hx : b.getD j 0 = x) : (u8s (splice row q (b.take j))).set (q + j) (.int .u8 (x.toNat : Int)) = u8s (splice row q (b.take (j + 1))):=by
  have e : b[j] = x:=by rw [← hx]; simp [List.getD,List.getElem?_eq_getElem hj]
  rw [← splice_step row b q j hj hq,e];unfold u8s;rw [List.map_set]
theorem rwrite_no (A P A2 : Option Addr) (L c K d n c2 : Nat) (p : Int) (w : World) (hL : L ≤ 65536) (hn : n ≤ 65536) (hno : okB L p n = false ∨ n = 0) :
    Calls Tryz.prog 24 #[.agg #[.slice A L c,.slice P K d],.int .i64 p,.slice A2 n c2] w fun e w' => e = .returned (.tuple #[.agg #[.slice A L c,.slice P K d],.int .i64 (codeF (okB L p n))]) ∧ Below w.heap.size w w':=by
  cases ok : okB L p n with
  | false =>
    clear hno;rw [codeF_no];go_enter Tryz.func24,Tryz.ntmps24;(go_wp2_with fail);refine (rthere_any _ _ _ _ _ _ _ _ _ (by omega) (by omega)).mono ?_;rw [ok];rintro e w1 ⟨rfl,b1⟩;obtain ⟨k0,k1⟩:=box_two w (.slice A L c) (.slice P K d) (.slice none 0 0) (.slice none 0 0) 29 29;obtain ⟨q0,q1,_,_⟩:=(k0.keep b1).use;obtain ⟨q2,q3,q4,q5⟩:=(k1.keep b1).use;have HG:=zqh ((k1.keep b1).got (.slice A L c) (.slice P K d));have HB:=zqh (below_two b1);clear k0 k1 b1;(go_wp2_with fail);refine bodyPost_ret (v:=.tuple #[.agg #[.slice A L c,.slice P K d],.int .i64 (-9)]) ?_ rfl ?_
    · obtain ⟨r0,r1⟩:=HG.out
      simp [results,Tryz.results24,go_sem,r0,r1]
    · exact ⟨rfl,(HB.out.setCell (by simp) _).setCell (by simp) _⟩
  | true =>
    have h0 : n = 0:=hno.resolve_left (by simp [ok]);subst h0;clear hno;rw [codeF_yes];go_enter Tryz.func24,Tryz.ntmps24;(go_wp2_with fail);refine (rthere_any _ _ _ _ _ _ _ _ _ (by omega) (by omega)).mono ?_;rw [show okB L p 0 = true from ok];rintro e w1 ⟨rfl,b1⟩;obtain ⟨k0,k1⟩:=box_two w (.slice A L c) (.slice P K d) (.slice none 0 0) (.slice none 0 0) 29 29;obtain ⟨q0,q1,_,_⟩:=(k0.keep b1).use;obtain ⟨q2,q3,q4,q5⟩:=(k1.keep b1).use;have HG:=zqh ((k1.keep b1).got (.slice A L c) (.slice P K d));have HB:=zqh (below_two b1);clear k0 k1 b1;(go_wp2_with fail);refine bodyPost_ret (v:=.tuple #[.agg #[.slice A L c,.slice P K d],.int .i64 0]) ?_ rfl ?_
    · obtain ⟨r0,r1⟩:=HG.out
      simp [results,Tryz.results24,go_sem,r0,r1]
    · exact ⟨rfl,(HB.out.setCell (by simp) _).setCell (by simp) _⟩
theorem rwrite_yes (A P A2 : Option Addr) (L c K d n c2 q : Nat) (m : PM) (b : List UInt8) (w : World) (HM : Hid (IsMem w (.agg #[.slice A L c,.slice P K d]) m)) (HU : Hid (Byt w (.slice A2 n c2) b)) (hL : L ≤ 65536) (hK : K < 1000) (hn0 : 0 < n) (hq : q + n ≤ L) (ok : okB L q n = true) :
    Calls Tryz.prog 24 #[.agg #[.slice A L c,.slice P K d],.int .i64 (q : Int),.slice A2 n c2] w fun e w' => ∃ x y,e = .returned (.tuple #[.agg #[x,y],.int .i64 0]) ∧ IsMem w' (.agg #[x,y]) (writeF m q b) ∧ Below w.heap.size w w':=by
  have hz : ((n : Int) == 0) = false:=by simp; omega
  obtain ⟨i0,hi,hz0,hz1,hz2⟩:=info_parts info_u8;obtain ⟨j0,hj,hy0,hy1,hy2⟩:=info_parts info_patch;have hlb : Hid (b.length = n):=HU.out.len;go_enter Tryz.func24,Tryz.ntmps24;(go_wp2_with fail);refine (rthere_any _ _ _ _ _ _ _ _ _ (by omega) (by omega)).mono ?_;rw [ok];rintro e w1 ⟨rfl,b1⟩;obtain ⟨k0,k1⟩:=box_two w (.slice A L c) (.slice P K d) (.slice none 0 0) (.slice none 0 0) 29 29;have K0:=zqh (k0.keep b1);have K1:=zqh (k1.keep b1);obtain ⟨q0,q1,_,_⟩:=(k0.keep b1).use;have HB:=zqh (below_two b1);clear k0 k1 b1;(go_wp2_with fail);refine (rtext_at _ _ _ _ _ _ m _ _ _ (HM.out.keep HB.out) hL (by omega)).mono ?_;rw [ok,codeF_yes];rintro e w2 ⟨B,k,e',rfl,hu2,b2⟩;have K2:=zqh (K0.out.keep b2);have K3:=zqh (K1.out.keep b2);have HT:=zqh hu2;have HB2:=zqh (below_then HB.out b2);have HL2:=zqh (HM.out.keep HB2.out).byt.lies;clear q0 q1 hu2 b2;obtain ⟨q0,q1,_,_⟩:=K2.out.use;have hlt0:=K2.out.lt;have hlt1:=K3.out.lt;obtain ⟨X,hX⟩ : ∃ X,X = u8s m.1:=⟨_,rfl⟩;have HX : Hid (X.length = L):=by rw [hX,u8s_len]; exact HM.out.len1
  have H1 : Hid (∀ v ∈ X,v.oneCell' = true):=by rw [hX]; exact u8s_one m.1
  rw [← hX] at HL2;have HE:=zqh hX;clear hX;(go_wp2_with (at_builtin; refine wpList_append_lies rfl _ _ 26 rfl w2.heap.size 5 i0 (.int .u8 0) 1 1 Tryz.underlying26 hi hz0 hz1 hz2 rfl (by decide) _ _ _ rfl (World.ownsRow_lit w2 #[] 0 (Nat.le_refl _) (by unfold maxLen; omega) rfl) A L c X rfl ?c1 ?c2 ?c3 ?c4 ?c5 ?c6 ?_))
  case c1 => rw [HX.out]; omega
  case c2 => exact HL2.out.keep ((Below.refl _ _).alloc (Nat.le_refl _) _)
  case c3 => exact H1.out
  case c4 => unfold maxLen; omega
  case c5 => omega
  case c6 => simp
  intro v3 w3 hown hgrow;have hB3 : Below w2.heap.size w2 w3:=((Below.refl w2.heap.size w2).alloc (Nat.le_refl _) _).grown hgrow (by simp) (fun k hk => by cases hk; exact Nat.le_refl _);have hown' : w3.ownsRow w2.heap.size 5 1 v3 L X:=by simpa using hown
  obtain ⟨g,cap,rfl,hg2,hg3⟩:=hown'.form (by omega);have HO:=zqh hown';have HB3:=zqh hB3;clear hown hgrow hB3 hown' q0 q1;(go_wp2_with fail)
  go_loopw [12] (fun i wr => ∃ j : Nat,j ≤ n ∧ i = .int .i64 (j : Int) ∧ wr.ownsRow w2.heap.size 5 1 (.slice (some ⟨g,0,none⟩) L cap) L (u8s (splice m.1 q (b.take j))) ∧ Below w2.heap.size w2 wr) (fun i _ => n - (intOf i).toNat)
  case atStart => exact ⟨0,Nat.zero_le _,rfl,by simpa [splice,← HE.out] using HO.out,HB3.out⟩
  case round =>
    obtain ⟨j,hj',rfl,hown,hb⟩:=hrel
    by_cases hlt : j < n
    · obtain ⟨g5,o5,rfl,hg5,hc5⟩ : ∃ g5 o5,A2 = some ⟨g5,o5,none⟩ ∧ g5 < w.heap.size ∧ w.cell? ⟨g5,o5 + j,none⟩ = some (.int .u8 ((b.getD j 0).toNat : Int)):=by
        have hl:=hlb.out
        rcases HU.out.lies with e | ⟨g5,o5,e,hg,hc⟩
        · have:=congrArg List.length e
          rw [u8s_len,hl] at this;simp at this;omega
        · refine ⟨g5,o5,e,hg,hc j _ ?_⟩
          rw [u8s_at (by omega)];simp [List.getD,List.getElem?_eq_getElem (by omega : j < b.length)]
      obtain ⟨x,hx⟩ : ∃ x : UInt8,b.getD j 0 = x:=⟨_,rfl⟩;rw [hx] at hc5;have HX5:=zqh hx;have hc6 : wr.cell? ⟨g5,o5 + j,none⟩ = some (.int .u8 (x.toNat : Int)):=(((HB2.out.trans (hb.mono HB2.out.size)).cell (p:=⟨g5,o5 + j,none⟩) hg5)).trans hc5;have hcl:=hown.cellAt (q + j) (by omega);obtain ⟨y,hy⟩ : ∃ y,(u8s (splice m.1 q (b.take j)))[q + j]? = some y:=by
        refine ⟨_,u8s_at ?_⟩;have:=hlb.out;have:=HM.out.len1;rw [length_splice _ _ _ (by simp; omega)];omega
      have hc7 : wr.cell? ⟨g,q + j,none⟩ = some y:=hcl.trans hy;have hf7 : wr.frozen? ⟨g,q + j,none⟩ = false:=hown.frozenAt (q + j);obtain ⟨hst,hgr⟩:=hown.stored (q + j) (.int .u8 (x.toNat : Int));have hlc : L ≤ cap:=by
        rcases hown.2 with ⟨h,_⟩ | ⟨g',cap',cur,e,_,_,h,_⟩
        · cases h
        · injection e with _ _ e
          omega
      rw [lay_step m.1 b q j x (by rw [hlb.out]; exact hlt) (by rw [hlb.out,HM.out.len1]; exact hq) hx] at hst;have HST:=zqh hst;have HBS : Hid (Below w2.heap.size w2 (wr.setCell ⟨g,q + j,none⟩ (.int .u8 (x.toNat : Int)))):=hb.setCell hg2 _;clear hst hgr hy hcl hx hc5 hown hb;go_wp2
      go_roundw
      case rel => exact ⟨j + 1,by omega,by go_num,HST.out,HBS.out⟩
      case measure => simp [intOf]; omega
    · have hjn : j = n:=by omega
      subst hjn;have hl:=hlb.out;rw [List.take_of_length_le (by omega)] at hown;have HBy:=zqh (own_byt hown);have K4:=zqh (K2.out.keep hb);have K5:=zqh (K3.out.keep hb);have HBr:=zqh hb;have HBw:=zqh (HB2.out.trans (hb.mono HB2.out.size));obtain ⟨q0,q1,_,_⟩:=K4.out.use;obtain ⟨q2,q3,_,_⟩:=K5.out.use;have hlt3:=K4.out.lt;have hlt4:=K5.out.lt;obtain ⟨qs,HQ,hlq,htl⟩ : ∃ qs : List Qt,Hid (qs.length = K) ∧ Lies w P (pc qs) ∧ Tells w qs m.2:=HM.out.patq;have HQL : Hid ((pc qs).length = K * 2):=by have:=HQ.out; show _ = _; rw [pc_len]; omega
      have HLQ:=zqh (hlq.keep HBw.out);have HTQ:=zqh htl;clear hown hb hl hlq htl;(go_wp2_with (first | (at_builtin; refine wpList_append_lies rfl (.tmp 53) (.tmp 55) 27 rfl wr.heap.size 86 j0 (.agg #[.int .i64 0,.slice none 0 0]) 2 32 Tryz.underlying27 hj hy0 hy1 hy2 rfl (by decide) _ _ _ rfl (World.ownsRow_lit wr #[] 0 (Nat.le_refl _) (by unfold maxLen; omega) rfl) P K d (pc qs) rfl ?c1 ?c2 ?c3 ?c4 ?c5 ?c6 ?_)))
      case c1 => exact HQL.out
      case c2 => exact HLQ.out.keep ((Below.refl _ _).alloc (Nat.le_refl _) _)
      case c3 => exact pc_one HTQ.out
      case c4 => unfold maxLen; omega
      case c5 => omega
      case c6 => simp
      intro v5 w5 hown5 hgrow5;have hB5 : Below wr.heap.size wr w5:=((Below.refl wr.heap.size wr).alloc (Nat.le_refl _) _).grown hgrow5 (by simp) (fun k hk => by cases hk; exact Nat.le_refl _);have hown5' : w5.ownsRow wr.heap.size 86 2 v5 K (pc qs):=by simpa using hown5
      have HB5:=zqh hB5;have K6:=zqh (K5.out.keep hB5);have hlt5:=K6.out.lt;have hlt6:=hB5.size;clear hown5 hgrow5 hB5 q0 q1 q2 q3;(go_wp2_with (first | (at_builtin; refine wpList_append_lies rfl (.tmp 56) (.tmp 60) 27 rfl wr.heap.size 86 j0 (.agg #[.int .i64 0,.slice none 0 0]) 2 32 Tryz.underlying27 hj hy0 hy1 hy2 rfl (by decide) _ _ _ rfl (hown5'.alloc _) (some ⟨w5.heap.size,0,none⟩) 1 1 (pc [((q : Int),.slice B k e')]) rfl ?c1 ?c2 ?c3 ?c4 ?c5 ?c6 ?_)))
      case c1 => rfl
      case c2 => exact lies_block (t:=86) (one_new _ _ _)
      case c3 => intro u hu; simp [pc] at hu; rcases hu with rfl | rfl <;> rfl
      case c4 => unfold maxLen; omega
      case c5 => omega
      case c6 => simp; omega
      intro v6 w6 hown6 hgrow6;have hB6 : Below wr.heap.size wr w6:=(HB5.out.alloc HB5.out.size _).grown hgrow6 (by simp; omega) (own_from hown5');have HB6:=zqh hB6;have K7:=zqh (K5.out.keep hB6);obtain ⟨q2,q3,q4,q5⟩:=(K5.out.keep hB6).use;have HO6:=zqh hown6;obtain ⟨g6,cap6,rfl,_,_⟩:=hown6.form (by omega);clear hown6 hgrow6 hB6 hown5';go_wp2;refine bodyPost_ret (v:=.tuple #[.agg #[.slice (some ⟨g,0,none⟩) L cap,.slice (some ⟨g6,0,none⟩) (K + 1) cap6],.int .i64 0]) ?_ rfl ?_
      · obtain ⟨r0,r1⟩:=K7.out.got (.slice (some ⟨g,0,none⟩) L cap) (.slice (some ⟨g6,0,none⟩) (K + 1) cap6)
        simp [results,Tryz.results24,go_sem,r0,r1]
      · have hb0 : b ≠ []:=by
          intro e;have:=hlb.out;rw [e] at this;simp at this;omega
        have ok' : okB m.1.length (q : Int) b.length = true:=by rw [HM.out.len1,hlb.out]; exact ok
        have b6 : Below w.heap.size w w6:=HBw.out.trans (HB6.out.mono HBw.out.size);refine ⟨_,_,rfl,IsMem.row (w:=w6) ?_ K7.out (row_put _ _ _ _),(b6.setCell (by simp) _).setCell (by simp) _⟩;rw [writeF_yes ok' hb0];refine mem_mk (HBy.out.keep HB6.out) ?_;refine own_pats (qs:=qs ++ [((q : Int),.slice B k e')]) (by rw [pc_app]; exact HO6.out) (Tells.snoc (p:=((q : Int),textF m q b.length)) (HTQ.out.keep b6) ?_);rw [hlb.out];exact HT.out.keep (HBr.out.trans (HB6.out.mono HBr.out.size))
theorem rwrite_any (v u : Value) (m : PM) (b : List UInt8) (p : Int) (w : World) (h : IsMem w v m) (hu : Byt w u b) (hL : m.1.length ≤ 65536) (hK : m.2.length < 1000) (hb : b.length ≤ 65536) :
    Calls Tryz.prog 24 #[v,.int .i64 p,u] w fun e w' => ∃ x y,e = .returned (.tuple #[.agg #[x,y],.int .i64 (codeF (okB m.1.length p b.length))]) ∧ IsMem w' (.agg #[x,y]) (writeF m p b) ∧ Below w.heap.size w w':=by
  have h':=h;obtain ⟨A,c,P,d,rfl,_,_⟩:=h.parts;have hu':=hu;obtain ⟨A2,c2,rfl⟩:=hu.form
  by_cases hn : okB m.1.length p b.length = false ∨ b.length = 0
  · refine (rwrite_no A P A2 _ c _ d _ c2 p w hL hb hn).mono fun e w' ⟨he,hw⟩ => ⟨_,_,he,?_,hw⟩
    have e : writeF m p b = m:=by
      rcases hn with hn | hn
      · exact writeF_no hn
      · rw [List.eq_nil_of_length_eq_zero hn]; exact writeF_nil
    rw [e];exact h'.keep hw
  · have ok : okB m.1.length p b.length = true:=by
      cases e : okB m.1.length p b.length with
      | true => rfl
      | false => exact absurd (.inl e) hn
    have hok:=(okB_iff _ _ _).1 ok;obtain ⟨q,rfl⟩:=Int.eq_ofNat_of_zero_le (by omega : 0 ≤ p);rw [ok,codeF_yes];exact rwrite_yes A P A2 _ c _ d _ c2 q m b w h' hu' hL hK (by omega) (by omega) ok
end Go.Proofs.YtcmldhjicjmmgaaGreatDoor
