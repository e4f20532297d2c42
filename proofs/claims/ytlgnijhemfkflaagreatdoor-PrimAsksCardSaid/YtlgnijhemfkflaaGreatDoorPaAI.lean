/- Part 9. -/
import Derived.Test.YtlgnijhemfkflaaGreatDoorPaAH
set_option linter.unusedVariables false
set_option linter.unusedSimpArgs false
set_option maxRecDepth 100000
set_option maxHeartbeats 4000000

namespace Go.Proofs.YtlgnijhemfkflaaGreatDoor
open Go.RowKit


theorem rright_any (A : Option Addr) (n c : Nat) (o : Bool) (l : List UInt8) (w : World) (h : Byt w (.slice A n c) l) :
    Calls Tryz.prog 40 #[.agg #[.slice A n c,.bool o]] w fun e w' => e = .returned (.bool (pRight o l)) ∧ Below w.heap.size w w':=by
  have hl:=h.len
  by_cases h1 : n ≤ 130
  · have h1' : (n : Int) ≤ 130:=by omega
    cases o with
    | true =>
      have H : Hid (pRight true l = true):=(pRight_iff _ _).2 ⟨by omega,.inl rfl⟩;rw [H.out];clear h hl;go_enter Tryz.func40,Tryz.ntmps40;go_wp2;go_ret;exact ⟨rfl,al_one _ _⟩
    | false =>
      by_cases h0 : n = 0
      · have H : Hid (pRight false l = true):=(pRight_iff _ _).2 ⟨by omega,.inr (len_zero (by omega))⟩
        rw [H.out];clear h hl;subst h0;go_enter Tryz.func40,Tryz.ntmps40;go_wp2;go_ret;exact ⟨rfl,al_one _ _⟩
      · have H : Hid (pRight false l = false):=(pRight_no _ _).2 (by rintro ⟨_,h | h⟩; cases h; rw [h] at hl; exact h0 hl.symm)
        rw [H.out];have h0' : ((n : Int) == 0) = false:=by simp; omega
        clear h hl;go_enter Tryz.func40,Tryz.ntmps40;go_wp2;go_ret;exact ⟨rfl,al_one _ _⟩
  · have H : Hid (pRight o l = false):=(pRight_no _ _).2 (by omega)
    have h1' : decide ((n : Int) ≤ 130) = false:=by simp; omega
    rw [H.out];clear h hl h1;go_enter Tryz.func40,Tryz.ntmps40;go_wp2;go_ret;exact ⟨rfl,al_one _ _⟩
theorem rsame_any (A A' : Option Addr) (n c n' c' : Nat) (o o' : Bool) (l l' : List UInt8) (w : World) (h : Byt w (.slice A n c) l) (h' : Byt w (.slice A' n' c') l') :
    Calls Tryz.prog 34 #[.agg #[.slice A n c,.bool o],.agg #[.slice A' n' c',.bool o']] w fun e w' => e = .returned (.bool (pSame o l o' l')) ∧ Below w.heap.size w w':=by
  by_cases ho : o = o'
  · subst ho
    have k1:=(al_one w (.cells #[.slice A n c,.bool o] 32)).trans ((al_one _ (.cells #[.slice A' n' c',.bool o] 32)).mono (by simp));have c1:=(h.keep k1).conv;have c2:=(h'.keep k1).conv;have K:=zqh k1;have hb : PBox _ _ _ _ _ _ ∧ PBox _ _ _ _ _ _:=box_two w (.slice A n c) (.bool o) (.slice A' n' c') (.bool o) 32 32;obtain ⟨b1,b2,_,_⟩:=hb.1.use;obtain ⟨b3,b4,_,_⟩:=hb.2.use
    by_cases hs : l = l'
    · have H : Hid (pSame o l o l' = true):=by show _ = _; unfold pSame; simp [hs]
      rw [H.out];subst hs;clear h h' k1 hb;go_enter Tryz.func34,Tryz.ntmps34;go_wp2;go_ret;exact ⟨rfl,K.out⟩
    · have H : Hid (pSame o l o l' = false):=by show _ = _; unfold pSame; simp [hs]
      rw [H.out];have hs':=str_ne (a:=strB l) (b:=strB l') (fun e => hs (strB_inj e));clear h h' k1 hb hs;go_enter Tryz.func34,Tryz.ntmps34;go_wp2;go_ret;exact ⟨rfl,K.out⟩
  · have H : Hid (pSame o l o' l' = false):=by show _ = _; unfold pSame; simp [ho]
    rw [H.out];have ho' : (o == o') = false:=by simpa using ho
    clear h h' ho;go_enter Tryz.func34,Tryz.ntmps34;go_wp2;go_ret;exact ⟨rfl,(al_one w (.cells #[.slice A n c,.bool o] 32)).trans ((al_one _ (.cells #[.slice A' n' c',.bool o'] 32)).mono (by simp))⟩
end Go.Proofs.YtlgnijhemfkflaaGreatDoor

namespace Go.Proofs.YtlgnijhemfkflaaGreatDoor
open Go.RowKit


theorem below_thenS {w w1 w2 : World} (h : Below w.heap.size w w1) (k : Below w1.heap.size w1 w2) : Below w.heap.size w w2:=h.trans (k.mono h.size)
theorem below_one (w : World) (o : Obj) : Below w.heap.size w (w.alloc o):=(Below.refl _ w).alloc (Nat.le_refl _) o
theorem ret_boolS {a b : Bool} (h : a = b) : Ending.returned (.bool a) = .returned (.bool b):=by rw [h]
abbrev ints (l : List Int) : List Value:=l.map (Value.int .i64)
theorem ints_len (l : List Int) : (ints l).length = l.length:=by simp [ints]
theorem ints_app (a b : List Int) : ints (a ++ b) = ints a ++ ints b:=by simp [ints]
theorem ints_one (l : List Int) : ∀ v ∈ ints l,v.oneCell' = true:=by
  intro v hv;rw [List.mem_map] at hv;obtain ⟨b,_,rfl⟩:=hv;rfl
theorem ints_at {l : List Int} {j : Nat} (h : j < l.length) : (ints l)[j]? = some (.int .i64 (l.getD j 0)):=by simp [ints,h]
def LiesS (w : World) (A : Option Addr) (xs : List Value) : Prop :=
  xs = [] ∨ ∃ g o,A = some ⟨g,o,none⟩ ∧ g < w.heap.size ∧ ∀ j v,xs[j]? = some v → w.cell? ⟨g,o + j,none⟩ = some v
theorem add_atS (g o j : Nat) : (⟨g,o,none⟩ : Addr).add j = ⟨g,o + j,none⟩:=by unfold Addr.add; split <;> simp_all
theorem LiesS.keep {w w' : World} {A : Option Addr} {xs : List Value} (h : LiesS w A xs) (b : Below w.heap.size w w') : LiesS w' A xs:=by
  rcases h with h | ⟨g,o,hA,hg,hc⟩
  · exact .inl h
  · exact .inr ⟨g,o,hA,Nat.lt_of_lt_of_le hg b.size,fun j v hv => (b.cell (p:=⟨g,o + j,none⟩) hg).trans (hc j v hv)⟩
theorem hpos_ofS {w : World} {A : Option Addr} {xs : List Value} (h : LiesS w A xs) {w' : World} (b : Below w.heap.size w w') (hx : 0 < xs.length) : ∃ ad,A = some ad ∧ ∀ j v,xs[j]? = some v → w'.cell? (ad.add j) = some v:=by
  rcases h.keep b with rfl | ⟨g,o,rfl,_,hc⟩
  · simp at hx
  · exact ⟨_,rfl,fun j v hv => by rw [add_atS]; exact hc j v hv⟩
def Row (w : World) (A : Option Addr) (n c : Nat) (l : List Int) : Prop:=l.length = n ∧ n ≤ c ∧ c ≤ maxLen ∧ LiesS w A (ints l)
theorem Row.keep {w w' : World} {A : Option Addr} {n c : Nat} {l : List Int} (h : Row w A n c l) (b : Below w.heap.size w w') : Row w' A n c l:=⟨h.1,h.2.1,h.2.2.1,h.2.2.2.keep b⟩
theorem row_nil (w : World) : Row w none 0 0 []:=⟨rfl,Nat.le_refl _,Nat.zero_le _,.inl rfl⟩
theorem Row.cells {w : World} {A : Option Addr} {n c : Nat} {l : List Int} (h : Row w A n c l) (hn : 0 < n) : ∃ g o,A = some ⟨g,o,none⟩ ∧ g < w.heap.size ∧ ∀ j,j < n → w.cell? ⟨g,o + j,none⟩ = some (.int .i64 (l.getD j 0)):=by
  obtain ⟨h1,_,_,h4⟩:=h
  rcases h4 with h4 | ⟨g,o,hA,hg,hc⟩
  · have : l = []:=by simpa [ints] using h4
    subst this;simp at h1;omega
  · exact ⟨g,o,hA,hg,fun j hj => hc j _ (ints_at (by omega))⟩
theorem Row.high {w : World} {A : Option Addr} {n c : Nat} {l : List Int} (h : Row w A n c l) {k : Nat} (hk : k ≤ n) : Row w A k c (l.take k):=by
  obtain ⟨h1,h2,h3,h4⟩:=h;refine ⟨by simp; omega,by omega,h3,?_⟩
  rcases h4 with h4 | ⟨g,o,hA,hg,hc⟩
  · left
    have:=congrArg List.length h4;rw [ints_len] at this;simp at this;subst this;simp
  · refine .inr ⟨g,o,hA,hg,fun j v hv => hc j v ?_⟩
    unfold ints at hv;rw [List.map_take,List.getElem?_take] at hv
    split at hv
    · exact hv
    · cases hv
def restAt (A : Option Addr) (k c : Nat) : Option Addr:=if c = k then A else A.map (·.add (k * 1))
theorem Row.rest {w : World} {A : Option Addr} {n c : Nat} {l : List Int} (h : Row w A n c l) {k : Nat} (hk : k ≤ n) : Row w (restAt A k c) (n - k) (c - k) (l.drop k):=by
  obtain ⟨h1,h2,h3,h4⟩:=h;refine ⟨by simp; omega,by omega,by omega,?_⟩
  by_cases hc : c = k
  · left
    have : l.drop k = []:=List.drop_eq_nil_of_le (by omega);rw [this];rfl
  · rcases h4 with h4 | ⟨g,o,rfl,hg,hcc⟩
    · left
      have:=congrArg List.length h4;rw [ints_len] at this;simp at this;subst this;simp
    · refine .inr ⟨g,o + k,by unfold restAt; rw [if_neg hc]; simp [add_atS],hg,fun j v hv => ?_⟩
      unfold ints at hv;rw [List.map_drop,List.getElem?_drop] at hv;rw [Nat.add_assoc];exact hcc _ v hv
theorem run_rest {A : Option Addr} {n c k : Nat} (w : World) (hk : k ≤ n) :
    (Instr.slice 28 (.slice A n c) (some (.int .i64 (k : Int))) none none).run Tryz.prog w = .ok (.slice (restAt A k c) (n - k) (c - k)) w:=by
  have hz : (sizeOf 3).run Tryz.prog w = .ok 1 w:=by kernel_rfl
  simp [Instr.slice,run_underlying Tryz.underlying28,Instr.sliceBounds,run_sliceBound,hk,hz,restAt]
theorem info_int : (Tryz.prog.info? 3).map (fun i => (i.zero,i.size,i.bytes)) = some (some (.int .i64 0),1,8):=by kernel_rfl
abbrev Owns (w : World) (base : Nat) (v : Value) (n : Nat) (l : List Int) : Prop:=w.ownsRow base 3 1 v n (ints l)
theorem Owns.row {w : World} {base n : Nat} {v : Value} {l : List Int} (h : Owns w base v n l) : ∃ A c,v = .slice A n c ∧ Row w A n c l:=by
  have hl:=h.1;rw [ints_len,Nat.mul_one] at hl
  rcases h.2 with ⟨rfl,h0⟩ | ⟨g,cap,cur,rfl,_,hg,hnc,hcm,_,ht⟩
  · have : l = []:=List.eq_nil_of_length_eq_zero (by omega)
    subst this;subst h0;exact ⟨_,_,rfl,row_nil w⟩
  · refine ⟨_,_,rfl,hl,hnc,hcm,.inr ⟨g,0,rfl,(Array.getElem?_eq_some_iff.1 hg).1,fun j x hx => ?_⟩⟩
    rw [← ht,List.getElem?_take] at hx
    split at hx
    · rw [Nat.zero_add]
      simp [World.cell?,hg];simpa using hx
    · cases hx
theorem Owns.alloc {w : World} {base n : Nat} {v : Value} {l : List Int} (h : Owns w base v n l) (o : Obj) : Owns (w.alloc o) base v n l:=World.ownsRow.alloc h o
theorem own_fromS {w : World} {base e size n : Nat} {v : Value} {xs : List Value} (h : w.ownsRow base e size v n xs) : ∀ k,v.ownBlock = some k → base ≤ k:=fun k hk => (h.lt k hk).1
theorem owns_block {w : World} {base g n : Nat} {l : List Int} (h : w.heap[g]? = some (.cells (ints l).toArray 3 (0,0))) (hl : l.length = n) (hb : base ≤ g) (hm : n ≤ maxLen) : Owns w base (.slice (some ⟨g,0,none⟩) n n) n l :=
  ⟨by rw [ints_len,hl,Nat.mul_one],.inr ⟨g,n,_,rfl,hb,h,Nat.le_refl _,hm,by simp [ints,hl],by rw [← hl,Nat.mul_one]; exact List.take_of_length_le (by simp [ints])⟩⟩
theorem run_app {w : World} (ty : TypeId) {base n : Nat} {v : Value} {xs : List Int} (hown : Owns w base v n xs) {A : Option Addr} {m c : Nat} {ys : List Int} (hr : Row w A m c ys) (h63 : n + m ≤ 1000000) (hbase : base ≤ w.heap.size) :
    ∃ v' w',(Builtin.append_ #[28,28] ty #[v,.slice A m c]).run Tryz.prog w = .ok v' w' ∧ Owns w' base v' (n + m) (xs ++ ys) ∧ w.grownBy w' v.ownBlock:=by
  obtain ⟨i0,hi,hz0,hz1,hz2⟩:=info_parts info_int;obtain ⟨h1,h2,h3,h4⟩:=hr;cases A with
  | some ad =>
    have hsrc : ∀ j u,(ints ys)[j]? = some u → w.cell? (ad.add j) = some u:=by
      intro j u hu
      rcases h4 with h4 | ⟨g,o,e,_,hc⟩
      · rw [h4] at hu; simp at hu
      · injection e with e
        rw [e,add_atS];exact hc j u hu
    obtain ⟨v',w',ha,hb,hc,_⟩:=run_append_own (P:=Tryz.prog) w base 28 ty 3 i0 (.int .i64 0) 1 8 Tryz.underlying28 hi hz0 hz1 hz2 rfl (by decide) v n (ints xs) hown ad m c (ints ys) (by rw [ints_len,h1,Nat.mul_one]) hsrc (ints_one ys) (by unfold maxLen; omega) (by omega) hbase;exact ⟨v',w',ha,by have e:=ints_app xs ys; unfold Owns; rw [e]; exact hb,hc⟩
  | none =>
    have hnil : ys = []:=by
      rcases h4 with h | ⟨_,_,h,_⟩
      · simpa [ints] using h
      · cases h
    subst hnil;have hm : m = 0:=by rw [← h1]; rfl
    subst hm;refine ⟨v,w,?_,by simpa using hown,World.grownBy.refl w _⟩
    rcases hown.2 with ⟨rfl,rfl⟩ | ⟨g,cap,cur,rfl,_,_,hnc,_⟩
    · simp [Builtin.append_,run_underlying Tryz.underlying28,sizeOf,typeInfo,hi,Builtin.lenOf,Builtin.firstCells]
    · simp [Builtin.append_,run_underlying Tryz.underlying28,sizeOf,typeInfo,hi,Builtin.lenOf,Builtin.firstCells,hnc,storeCells]
theorem app_below {w0 w w' : World} {base n : Nat} {v : Value} {xs : List Int} (hown : Owns w base v n xs) (hb : Below w0.heap.size w0 w) (hg : w.grownBy w' v.ownBlock) (hB : w0.heap.size ≤ base) : Below w0.heap.size w0 w' :=
  hb.grown hg hb.size (fun k hk => Nat.le_trans hB (own_fromS hown k hk))
theorem wp_app {o : Oper} {a : Act} {K : Act → World → Prop} {Q : Exit → Act → World → Prop} {w : World} (s x : Operand)
    (ho : o.op = .call { callee:=.builtin .append,args:=#[s,x],argTypes:=#[28,28] })
    (base : Nat) (v : Value) (n : Nat) (xs : List Int) (hs : a.eval s = v) (hown : Owns w base v n xs)
    (A : Option Addr) (m c : Nat) (ys : List Int) (hx : a.eval x = .slice A m c) (hr : Row w A m c ys) (h63 : n + m ≤ 1000000) (hbase : base ≤ w.heap.size)
    (w0 : World) (hb : Below w0.heap.size w0 w) (hB : w0.heap.size ≤ base)
    (h : ∀ v' w',Owns w' base v' (n + m) (xs ++ ys) → Below w0.heap.size w0 w' → K (a.put o.dst v') w') : o.wp Tryz.prog a w K Q:=by
  obtain ⟨v',w',hr,h2,h3⟩:=run_app o.type hown hr h63 hbase;unfold Oper.wp execOp;simp only [ho,resolve,invoke,builtin,Sem.run_bind,Sem.run_pure,Result.andThen_ok,List.map_toArray,List.map_cons,List.map_nil,hs,hx,hr];exact h v' w' h2 (app_below hown hb h3 hB)
theorem wpList_app {ops : Array Oper} {rest : List Oper} {o : Oper} {a : Act} {Q : Exit → Act → World → Prop} {w : World} (hgd : o.guard = none) (s x : Operand)
    (ho : o.op = .call { callee:=.builtin .append,args:=#[s,x],argTypes:=#[28,28] })
    (base : Nat) (v : Value) (n : Nat) (xs : List Int) (hs : a.eval s = v) (hown : Owns w base v n xs)
    (A : Option Addr) (m c : Nat) (ys : List Int) (hx : a.eval x = .slice A m c) (hr : Row w A m c ys) (h63 : n + m ≤ 1000000) (hbase : base ≤ w.heap.size)
    (w0 : World) (hb : Below w0.heap.size w0 w) (hB : w0.heap.size ≤ base)
    (h : ∀ v' w',Owns w' base v' (n + m) (xs ++ ys) → Below w0.heap.size w0 w' → wpList Tryz.prog ops Q rest (a.put o.dst v') w') : wpList Tryz.prog ops Q (o :: rest) a w :=
  wpList_plain hgd fun _ hK => wp_app s x ho base v n xs hs hown A m c ys hx hr h63 hbase w0 hb hB fun v' w' h2 h3 => hK _ _ (h v' w' h2 h3)
theorem step_app {ops : Array Oper} {o : Oper} {a : Act} {K : Act → World → Prop} {Q : Exit → Act → World → Prop} {E : Prop} {w : World} (hgd : o.guard = none) (s x : Operand)
    (ho : o.op = .call { callee:=.builtin .append,args:=#[s,x],argTypes:=#[28,28] })
    (base : Nat) (v : Value) (n : Nat) (xs : List Int) (hs : a.eval s = v) (hown : Owns w base v n xs)
    (A : Option Addr) (m c : Nat) (ys : List Int) (hx : a.eval x = .slice A m c) (hr : Row w A m c ys) (h63 : n + m ≤ 1000000) (hbase : base ≤ w.heap.size)
    (w0 : World) (hb : Below w0.heap.size w0 w) (hB : w0.heap.size ≤ base)
    (h : ∀ v' w',Owns w' base v' (n + m) (xs ++ ys) → Below w0.heap.size w0 w' → K (a.put o.dst v') w') :
    if Region.wanted o (yielded ops a.tmps) = true then Oper.wp Tryz.prog o a w K Q else E:=by
  have hw : Region.wanted o (yielded ops a.tmps) = true:=by simp [Region.wanted,hgd]
  rw [if_pos hw];exact wp_app s x ho base v n xs hs hown A m c ys hx hr h63 hbase w0 hb hB h
def Since (w a : World) : Prop:=Below w.heap.size w a
theorem Since.drew {w a : World} (h : Since w a) : Since w a.drew:=Below.trans h ⟨rfl,rfl,rfl,Nat.le_refl _,fun _ _ => rfl⟩
theorem Since.bel {w a : World} (h : Since w a) : Below w.heap.size w a:=h
theorem Since.then {w a b : World} (h : Since w a) (k : Below a.heap.size a b) : Since w b:=below_thenS h k
theorem Since.cell {w a : World} {g o : Nat} {v : Value} (h : Since w a) (hg : g < w.heap.size) (hc : w.cell? ⟨g,o,none⟩ = some v) : a.cell? ⟨g,o,none⟩ = some v:=(Below.cell h (p:=⟨g,o,none⟩) hg).trans hc
theorem one_row (w : World) (x : Int) : Row (w.alloc (.cells #[.int .i64 x] 3)) (some ⟨w.heap.size,0,none⟩) 1 1 [x]:=by
  obtain ⟨_,_,e,h⟩:=Owns.row (l:=[x]) (World.ownsRow_lit (base:=0) (e:=3) (size:=1) w #[.int .i64 x] 1 (Nat.zero_le _) (by unfold maxLen; omega) rfl);injection e with e1 e2 e3
  subst e1 e3;exact h
theorem Row.grown {w w' : World} {g n c : Nat} {l : List Int} {row : Option Nat} (h : Row w (some ⟨g,0,none⟩) n c l) (hg : w.grownBy w' row) (hne : some g ≠ row) : Row w' (some ⟨g,0,none⟩) n c l:=by
  refine ⟨h.1,h.2.1,h.2.2.1,?_⟩
  rcases h.2.2.2 with h | ⟨b,o,e,hb,hc⟩
  · exact .inl h
  · injection e with e
    injection e with e1 e2
    subst e1 e2;exact .inr ⟨g,0,rfl,Nat.lt_of_lt_of_le hb hg.size,fun j v hv => (hg.cell_far ⟨g,0 + j,none⟩ hb hne).trans (hc j v hv)⟩
end Go.Proofs.YtlgnijhemfkflaaGreatDoor

namespace Go.Proofs.YtlgnijhemfkflaaGreatDoor
open Go.RowKit


theorem own_any (A : Option Addr) (n c : Nat) (l : List Int) (w : World) (hn : n ≤ 65536) (HR : Hid (Row w A n c l)) :
    Calls Tryz.prog 199 #[.slice A n c] w fun e w' => ∃ g,e = .returned (.slice (some ⟨g,0,none⟩) n n) ∧ Owns w' w.heap.size (.slice (some ⟨g,0,none⟩) n n) n l ∧ Below w.heap.size w w':=by
  obtain ⟨i0,hi,hz0,hz1,hz2⟩:=info_parts info_int;obtain ⟨Z,hZ⟩ : ∃ Z,Z = (madeCells (Value.int .i64 0).cells n).toList:=⟨_,rfl⟩;obtain ⟨X,hX⟩ : ∃ X,X = ints l:=⟨_,rfl⟩;have hmk : (Instr.makeSlice 28 (.int .i64 (n : Int)) (.int .i64 (n : Int))).run Tryz.prog w = .ok (.slice (some ⟨w.heap.size,0,none⟩) n n) (w.alloc (.cells Z.toArray 3)):=by
    have:=run_make (P:=Tryz.prog) w 28 3 i0 (.int .i64 0) Tryz.underlying28 hi hz0 .i64 .i64 n n (by omega) (Int.le_refl _) (by rw [hz2]; omega) (by omega);rw [hz1] at this;simpa [hZ] using this
  have HZ : Hid (Z.length = n):=by rw [hZ]; show _ = n; simp [size_madeCells]
  have HX : Hid (X.length = n):=by rw [hX]; have:=HR.out.1; show _ = n; rw [ints_len]; exact this
  have HE:=zqh hX;have HL0:=zqh HR.out.2.2.2;clear hX hZ hi hz0 hz1 hz2;go_enter Tryz.func199,Tryz.ntmps199;(go_wp2_with (with_reducible refine wpList_copy_splice rfl (.tmp 7) (.tmp 8) 28 28 rfl 3 Tryz.underlying28 ?c0 (some ⟨w.heap.size,0,none⟩) A n n n c rfl rfl w.heap.size 0 Z 3 ?c1 X ?c2 (fun hx => ⟨rfl,hpos_ofS (HE.out ▸ HL0.out) ((Below.refl _ _).alloc (Nat.le_refl _) _) hx⟩) ?c3 ?c4 w.heap.size w ?c5 ?c6 ?_))
  case c0 => kernel_rfl
  case c1 => exact heap_alloc_new _ _
  case c2 => rw [HX.out]; simp
  case c3 => rw [HX.out,HZ.out]; omega
  case c4 => rw [HE.out]; exact ints_one l
  case c5 => exact (Below.refl _ _).alloc (Nat.le_refl _) _
  case c6 => omega
  intro w2 hg hb2;go_wp2;go_ret;refine ⟨w.heap.size,rfl,owns_block ?_ HR.out.1 (Nat.le_refl _) (by unfold maxLen; omega),hb2⟩;have h2:=hg.out;have e : splice Z 0 X = X:=by
    have z:=HZ.out;have x:=HX.out;simp [splice,z,x]
  rw [e,HE.out] at h2;exact h2
theorem with_anyS (A : Option Addr) (n c : Nat) (x : Int) (l : List Int) (w : World) (hn : n ≤ 65536) (HR : Hid (Row w A n c l)) :
    Calls Tryz.prog 265 #[.slice A n c,.int .i64 x] w fun e w' => ∃ g,e = .returned (.slice (some ⟨g,0,none⟩) (n + 1) (n + 1)) ∧ Owns w' w.heap.size (.slice (some ⟨g,0,none⟩) (n + 1) (n + 1)) (n + 1) (l ++ [x]) ∧ Below w.heap.size w w':=by
  obtain ⟨i0,hi,hz0,hz1,hz2⟩:=info_parts info_int;obtain ⟨Z,hZ⟩ : ∃ Z,Z = (madeCells (Value.int .i64 0).cells (n + 1)).toList:=⟨_,rfl⟩;obtain ⟨X,hX⟩ : ∃ X,X = ints l:=⟨_,rfl⟩;have hmk : (Instr.makeSlice 28 (.int .i64 ((n : Int) + 1)) (.int .i64 ((n : Int) + 1))).run Tryz.prog w = .ok (.slice (some ⟨w.heap.size,0,none⟩) (n + 1) (n + 1)) (w.alloc (.cells Z.toArray 3)):=by
    have:=run_make (P:=Tryz.prog) w 28 3 i0 (.int .i64 0) Tryz.underlying28 hi hz0 .i64 .i64 ((n : Int) + 1) ((n : Int) + 1) (by omega) (Int.le_refl _) (by rw [hz2]; omega) (by omega);rw [hz1] at this;simpa [hZ] using this
  have HZ : Hid (Z.length = n + 1):=by rw [hZ]; show _ = n + 1; simp [size_madeCells]
  have HX : Hid (X.length = n):=by rw [hX]; have:=HR.out.1; show _ = n; rw [ints_len]; exact this
  have HE:=zqh hX;have HL0:=zqh HR.out.2.2.2;clear hX hZ hi hz0 hz1 hz2;go_enter Tryz.func265,Tryz.ntmps265;(go_wp2_with (with_reducible refine wpList_copy_splice rfl (.tmp 10) (.tmp 11) 28 28 rfl 3 Tryz.underlying28 ?c0 (some ⟨w.heap.size,0,none⟩) A (n + 1) (n + 1) n c rfl rfl w.heap.size 0 Z 3 ?c1 X ?c2 (fun hx => ⟨rfl,hpos_ofS (HE.out ▸ HL0.out) ((Below.refl _ _).alloc (Nat.le_refl _) _) hx⟩) ?c3 ?c4 w.heap.size w ?c5 ?c6 ?_))
  case c0 => kernel_rfl
  case c1 => exact heap_alloc_new _ _
  case c2 => rw [HX.out]; simp
  case c3 => rw [HX.out,HZ.out]; omega
  case c4 => rw [HE.out]; exact ints_one l
  case c5 => exact (Below.refl _ _).alloc (Nat.le_refl _) _
  case c6 => omega
  intro w2 hg hb2;have e : splice Z 0 X = X ++ Z.drop n:=by
    have z:=HZ.out;have x:=HX.out;simp [splice,z,x]
  rw [e] at hg;have hl : (X ++ Z.drop n).length = n + 1:=by have z:=HZ.out; have x:=HX.out; simp [z,x]
  obtain ⟨y,hy⟩ : ∃ y,(X ++ Z.drop n)[n]? = some y:=⟨_,List.getElem?_eq_getElem (by omega)⟩;have k2 : w2.cell? ⟨w.heap.size,n,none⟩ = some y:=by
    simp only [World.cell?,hg.out];simpa using hy
  have f2 : w2.frozen? ⟨w.heap.size,n,none⟩ = false:=by simp [World.frozen?,hg.out]
  have HB2:=zqh hb2;have HL:=zqh hl;clear e hl hb2 hy;go_wp2;go_ret;refine ⟨w.heap.size,rfl,owns_block ?_ (by have:=HR.out.1; simp [this]) (Nat.le_refl _) (by unfold maxLen; omega),HB2.out.setCell (Nat.le_refl _) _⟩;rw [Go.Joins.block_setCell hg.out]
  congr 2
  have z:=HZ.out;have x':=HX.out;have hx : (X ++ Z.drop n).set n (.int .i64 x) = X ++ [.int .i64 x]:=by
    rw [List.set_append_right _ _ (by omega),x',Nat.sub_self]
    congr 1
    have : Z.drop n = [Z[n]]:=by
      rw [List.drop_eq_getElem_cons (by omega),List.drop_eq_nil_of_le (by omega)]
    rw [this];rfl
  rw [show ints (l ++ [x]) = X ++ [.int .i64 x] by rw [HE.out,ints_app]; rfl];simp [hx]
end Go.Proofs.YtlgnijhemfkflaaGreatDoor

namespace Go.Proofs.YtlgnijhemfkflaaGreatDoor
open Go.RowKit


def popX (l : List Int) : Int:=l.getD (l.length - 1) 0
def popL (l : List Int) : List Int:=l.take (l.length - 1)
def popC (l : List Int) : Int:=if l.length = 0 then -4 else 0
theorem pop_some {l : List Int} {k : Nat} (h : l.length = k + 1) : popX l = l.getD k 0 ∧ popL l = l.take k ∧ popC l = 0:=by
  unfold popX popL popC;rw [h];exact ⟨rfl,rfl,rfl⟩
theorem pop_at (A : Option Addr) (n c : Nat) (l : List Int) (w : World) (hn : n ≤ 65536) (HR : Hid (Row w A n c l)) :
    Calls Tryz.prog 291 #[.slice A n c] w fun e w' => ∃ B m d,e = .returned (.tuple #[.int .i64 (popX l),.slice B m d,.int .i64 (popC l)]) ∧ Row w' B m d (popL l) ∧ Below w.heap.size w w':=by
  have hl:=HR.out.1;have hc:=HR.out.2.1;have hm:=HR.out.2.2.1;cases n with
  | zero =>
    obtain rfl : l = []:=List.eq_nil_of_length_eq_zero hl;clear hl;go_enter Tryz.func291,Tryz.ntmps291;go_wp2
    go_ret3
    exact ⟨_,_,_,rfl,row_nil _,Below.refl _ _⟩
  | succ k =>
    obtain ⟨h1,h2,h3⟩:=pop_some hl;rw [h1,h3];obtain ⟨g,o,rfl,hg,hce⟩:=HR.out.cells (by omega);have k0:=hce k (by omega);obtain ⟨y,hy⟩ : ∃ y,l.getD k 0 = y:=⟨_,rfl⟩;rw [hy] at k0 ⊢;have H2:=zqh h2;have HT:=zqh (HR.out.high (k:=k) (by omega));have hkc : (k : Int) ≤ (c : Int):=by omega
    have hk1 : (k : Int) < (k : Int) + 1:=by omega
    unfold maxLen at hm;clear h1 h2 h3 hce hy hl hc;go_enter Tryz.func291,Tryz.ntmps291;have S0 : (w.cell? ⟨g,o + k,none⟩ = some (.int .i64 y) ∧ Since w w):=⟨k0,Below.refl _ _⟩;have SD : Hid (∀ a,(a.cell? ⟨g,o + k,none⟩ = some (.int .i64 y) ∧ Since w a) → (a.drew.cell? ⟨g,o + k,none⟩ = some (.int .i64 y) ∧ Since w a.drew)):=zqh fun a h => ⟨h.1,h.2.drew⟩
    have SK : Hid (∀ a b,(a.cell? ⟨g,o + k,none⟩ = some (.int .i64 y) ∧ Since w a) → Below a.heap.size a b → (b.cell? ⟨g,o + k,none⟩ = some (.int .i64 y) ∧ Since w b)):=zqh fun a b h kb => ⟨(h.2.then kb).cell hg k0,h.2.then kb⟩
    have HS0:=zqh S0;clear S0 k0;(go_wp2_with fail);refine wp_region_noPanic ?_
    go_region_held3 (fun a => a.cell? ⟨g,o + k,none⟩ = some (.int .i64 y) ∧ Since w a) (first | assumption | exact SD.out _ HS0.out)
      (first | (go_at_call 199; have s4 : (_ ∧ Since w _):=(by assumption); ((with_reducible refine (own_any _ _ _ (l.take k) _ (by omega) (zqh (HT.out.keep s4.2.bel))).mono ?_); rintro e w5 ⟨g5,rfl,ho,b5⟩; have s5:=SK.out _ _ s4 b5; have HO:=zqh ho; clear ho s4)))
    all_goals (refine NoPanic.normal ?_)
    all_goals go_wp2
    all_goals go_ret3
    all_goals
      obtain ⟨B,d,e,hr⟩:=HO.out.row;injection e with e1 e2 e3
      subst e1 e3;exact ⟨_,_,_,rfl,by rw [H2.out]; exact hr,s5.2⟩
def sameB (a b : List Int) : Bool:=decide (a = b)
theorem sameB_of {a b : List Int} (h : a = b) : sameB a b = true:=by simp [sameB,h]
theorem sameB_len {a b : List Int} (h : a.length ≠ b.length) : sameB a b = false:=by
  simp only [sameB,decide_eq_false_iff_not];intro e;exact h (by rw [e])
theorem take_ne {a b : List Int} {k : Nat} (h : a.getD k 0 ≠ b.getD k 0) : sameB a b = false:=by
  simp only [sameB,decide_eq_false_iff_not];intro e;exact h (by rw [e])
theorem take_all {a b : List Int} {n : Nat} (ha : a.length = n) (hb : b.length = n) (h : ∀ j,j < n → a.getD j 0 = b.getD j 0) : sameB a b = true:=by
  refine sameB_of (List.ext_getElem (by omega) fun j h1 h2 => ?_);have:=h j (by omega);simpa [List.getD,h1,h2] using this
theorem same_eq (A B : Option Addr) (n c d : Nat) (l r : List Int) (w : World) (hn : n ≤ 65536) (HL : Hid (Row w A n c l)) (HR : Hid (Row w B n d r)) :
    Calls Tryz.prog 23 #[.slice A n c,.slice B n d] w fun e w' => e = .returned (.bool (sameB l r)) ∧ Below w.heap.size w w':=by
  have HA : Hid (l.length = n):=HL.out.1;have HB : Hid (r.length = n):=HR.out.1;go_enter Tryz.func23,Tryz.ntmps23;go_wp2
  go_loopw [5] (fun i wr => ∃ k : Nat,k ≤ n ∧ i = .int .i64 (k : Int) ∧ Hid (∀ j,j < k → l.getD j 0 = r.getD j 0) ∧ Below w.heap.size w wr) (fun i _ => n - (intOf i).toNat)
  case atStart => exact ⟨0,by omega,rfl,zqh (fun j hj => by omega),Below.refl _ _⟩
  case round =>
    obtain ⟨k,hk,rfl,HJ,hb⟩:=hrel
    by_cases hlt : k < n
    · obtain ⟨g,o,rfl,hg,hc1⟩:=HL.out.cells (by omega)
      obtain ⟨g2,o2,rfl,hg2,hc2⟩:=HR.out.cells (by omega);obtain ⟨x,hx⟩ : ∃ x,l.getD k 0 = x:=⟨_,rfl⟩;obtain ⟨y,hy⟩ : ∃ y,r.getD k 0 = y:=⟨_,rfl⟩;have k1:=(hb.cell (p:=⟨g,o + k,none⟩) hg).trans (hc1 k hlt);have k2:=(hb.cell (p:=⟨g2,o2 + k,none⟩) hg2).trans (hc2 k hlt);rw [hx] at k1;rw [hy] at k2;have hlt' : (k : Int) < (n : Int):=by omega
      have H1:=zqh hx;have H2:=zqh hy;have H3:=zqh hb;clear hx hy hc1 hc2 hb
      by_cases he : x = y
      · have hne : (x != y) = false:=by simp [he]
        have HE:=zqh he;clear he;(go_wp2_with fail)
        go_quiet (fail)
        go_wp2
        go_roundw
        case rel => exact ⟨k + 1,by omega,by go_num,zqh (fun j hj => by
          by_cases hjk : j = k
          · subst hjk; rw [H1.out,H2.out,HE.out]
          · exact HJ.out j (by omega)),H3.out.trans (Go.Joins.below_draws _ _ _)⟩
        case measure => simp [intOf]; omega
      · have hne : (x != y) = true:=by simp [he]
        have HE : Hid (sameB l r = false):=take_ne (k:=k) (by rw [H1.out,H2.out]; exact he);clear he;(go_wp2_with fail)
        go_quiet (fail)
        go_wp2;go_ret;exact ⟨ret_boolS HE.out.symm,H3.out.trans (Go.Joins.below_draws _ _ _)⟩
    · have hkn : decide (k < n) = false:=by simp; omega
      have HE : Hid (sameB l r = true):=take_all HA.out HB.out (fun j hj => HJ.out j (by omega));go_wp2;go_ret;exact ⟨ret_boolS HE.out.symm,hb⟩
theorem same_atS (A B : Option Addr) (n c m d : Nat) (l r : List Int) (w : World) (hn : n ≤ 65536) (hm : m ≤ 65536) (HL : Hid (Row w A n c l)) (HR : Hid (Row w B m d r)) :
    Calls Tryz.prog 23 #[.slice A n c,.slice B m d] w fun e w' => e = .returned (.bool (sameB l r)) ∧ Below w.heap.size w w':=by
  by_cases h : n = m
  · subst h
    exact same_eq A B n c d l r w hn HL HR
  · have HE : Hid (sameB l r = false):=sameB_len (by rw [HL.out.1,HR.out.1]; exact h)
    have h' : ((n : Int) != (m : Int)) = true:=by simp; omega
    clear h;go_enter Tryz.func23,Tryz.ntmps23;go_wp2;go_ret;exact ⟨ret_boolS HE.out.symm,Below.refl _ _⟩
end Go.Proofs.YtlgnijhemfkflaaGreatDoor

namespace Go.Proofs.YtlgnijhemfkflaaGreatDoor
open Go.RowKit


def From (w : World) (A : Option Addr) (n c : Nat) (B : Option Addr) (m d : Nat) : Prop:=(B = A ∧ m = n ∧ d = c) ∨ ∀ b,B = some b → w.heap.size ≤ b.block
theorem Row.from {w w1 w2 : World} {A B : Option Addr} {n c m d : Nat} {l l' : List Int} (h : Row w A n c l) (h1 : Row w1 B m d l') {W : World} (hf : From W A n c B m d) (hw : w.heap.size ≤ W.heap.size) (hz : w1.heap.size ≤ w2.heap.size)
    (hs : ∀ g,g < w.heap.size ∨ W.heap.size ≤ g → g < w1.heap.size → w2.heap[g]? = w1.heap[g]?) : Row w2 B m d l':=by
  obtain ⟨q1,q2,q3,q4⟩:=h1;refine ⟨q1,q2,q3,?_⟩
  rcases q4 with q4 | ⟨g,o,e,hg,hc⟩
  · exact .inl q4
  · by_cases h0 : ints l' = []
    · exact .inl h0
    · have hgg : g < w.heap.size ∨ W.heap.size ≤ g:=by
        rcases hf with ⟨f1,f2,f3⟩ | hf
        · subst f1 f2
          have hl : l.length = l'.length:=by rw [h.1,q1]
          rcases h.2.2.2 with h4 | ⟨g',o',e',hg',_⟩
          · have:=congrArg List.length h4
            rw [ints_len] at this;have hz : l.length = 0:=this;exact absurd (by rw [List.eq_nil_of_length_eq_zero (by omega : l'.length = 0)]; rfl) h0
          · rw [e] at e'
            injection e' with e'
            injection e' with e1
            subst e1;exact .inl hg'
        · exact .inr (hf _ e)
      refine .inr ⟨g,o,e,by omega,fun j v hv => ?_⟩;have:=hc j v hv;unfold World.cell? at this ⊢;rw [hs g hgg hg];exact this
end Go.Proofs.YtlgnijhemfkflaaGreatDoor
