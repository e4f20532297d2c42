/- Part 2. -/
import Derived.Test.YtcmldhjicjmmgaaGreatDoorXlAA
import Derived.Lib.SmallJoins
set_option linter.unusedVariables false
set_option linter.unusedSimpArgs false
set_option maxRecDepth 100000
set_option maxHeartbeats 4000000

namespace Go.Proofs.YtcmldhjicjmmgaaGreatDoor
open Go.RowKit


theorem box_cells {w w1 : World} {x y : Value} {t : TypeId} (b : Below (w.alloc (.cells #[x,y] t)).heap.size (w.alloc (.cells #[x,y] t)) w1) : w1.cell? ⟨w.heap.size,0,none⟩ = some x ∧ w1.cell? ⟨w.heap.size,1,none⟩ = some y:=by
  constructor
  · rw [b.cell (p:=⟨w.heap.size,0,none⟩) (by simp),World.cell?_alloc_new]; rfl
  · rw [b.cell (p:=⟨w.heap.size,1,none⟩) (by simp),World.cell?_alloc_new]; rfl
theorem box_below {w w1 : World} {o : Obj} (b : Below (w.alloc o).heap.size (w.alloc o) w1) : Below w.heap.size w w1:=((Below.refl _ w).alloc (Nat.le_refl _) o).trans (b.mono (by simp))
theorem codeF_yes : codeF true = 0:=rfl
theorem codeF_no : codeF false = -9:=rfl
theorem text_any (v : Value) (m : PM) (p n : Int) (w : World) (h : IsMem w v m) (hL : m.1.length ≤ 65536) (hn : n ≤ 9223372036854775807) :
    Calls Tryz.prog 210 #[v,.int .i64 p,.int .i64 n] w fun e w' => ∃ u,e = .returned (.tuple #[u,.int .i64 (codeF (okB m.1.length p n))]) ∧ Byt w' u (textF m p n) ∧ Below w.heap.size w w':=by
  obtain ⟨A,c,P,d,rfl,hb,hp⟩:=h.parts;obtain ⟨A',c',e',hc,hm,hA⟩:=hb;injection e' with e1 _ e2
  subst e1 e2;have HT:=zqh (textF_no (m:=m) (p:=p) (n:=n));have HY:=zqh (textF_yes (m:=m) (p:=p) (n:=n));obtain ⟨L,hLe⟩ : ∃ L,L = m.1.length:=⟨_,rfl⟩;rw [← hLe] at hL hc ⊢;have HE:=zqh hLe;clear hLe;cases ok : okB L p n with
  | false =>
    clear h hp;go_enter Tryz.func210,Tryz.ntmps210;(go_wp2_with (go_at_call 72; (with_reducible refine (there_any _ _ _ _ _ _ _ _ _ (by omega) hn).mono ?_); rintro e w1 ⟨rfl,b1⟩));go_ret2;exact ⟨_,rfl,by rw [HT.out (by rw [← HE.out]; exact ok)]; exact byt_nil _,box_below b1⟩
  | true =>
    have hok:=(okB_iff _ _ _).1 ok
    by_cases h0 : n = 0
    · subst h0
      clear h hp;go_enter Tryz.func210,Tryz.ntmps210;(go_wp2_with (go_at_call 72; (with_reducible refine (there_any _ _ _ _ _ _ _ _ _ (by omega) hn).mono ?_); rintro e w1 ⟨rfl,b1⟩));go_ret2;exact ⟨_,rfl,by rw [HY.out (by rw [← HE.out]; exact ok)]; simpa using byt_nil _,box_below b1⟩
    · have h0' : (n == 0) = false:=by simp [h0]
      obtain ⟨h1,h2,h3⟩:=hok.resolve_left h0;obtain ⟨q,rfl⟩:=Int.eq_ofNat_of_zero_le h2;obtain ⟨k,rfl⟩:=Int.eq_ofNat_of_zero_le (Int.le_of_lt h1);have h4 : q + k ≤ L:=by omega
      have h5 : 0 < k:=by omega
      have hne : c ≠ q:=by omega
      obtain ⟨g,o,rfl,hg,hcell⟩ : ∃ g o,A = some ⟨g,o,none⟩ ∧ g < w.heap.size ∧ Lies w (some ⟨g,o,none⟩) (u8s m.1):=by
        have hA':=hA
        rcases hA with e | ⟨g,o,rfl,hg,_⟩
        · have:=congrArg List.length e
          rw [u8s_len,← HE.out] at this;simp at this;omega
        · exact ⟨g,o,rfl,hg,hA'⟩
      have HX : Hid (Lies w (some ⟨g,o + q,none⟩) (u8s (textF m q k))):=by
        show Lies w _ _;rw [HY.out (by rw [← HE.out]; exact ok)];have:=hcell.part q k;simpa [u8s,List.map_take,List.map_drop] using this
      have HK : Hid ((textF m q k).length = k):=by rw [HY.out (by rw [← HE.out]; exact ok)]; show _ = _; have:=HE.out; simp; omega
      clear h hp hcell hA hok h0 h1 h2 h3;go_enter Tryz.func210,Tryz.ntmps210;(go_wp2_with fail);refine (there_any _ _ _ _ _ _ _ _ _ (by omega) hn).mono ?_;rintro e w1 ⟨rfl,b1⟩;obtain ⟨k0,k1⟩:=box_cells b1;have B1:=zqh (box_below b1);clear b1;(go_wp2_with fail);refine (own_u8 _ k _ (textF m q k) _ HK.out (by omega) (HX.out.keep B1.out)).mono ?_;rintro e w2 ⟨g2,rfl,hg2,hh,b2⟩;have HH:=zqh hh;clear hh;(go_wp2_with fail);go_ret2;exact ⟨_,rfl,by have:=byt_block HH.out (by rw [HK.out]; omega); rwa [HK.out] at this,below_then B1.out b2⟩
theorem rthere_any (A P : Option Addr) (L c k d : Nat) (p n : Int) (w : World) (hL : L ≤ 9223372036854775807) (hn : n ≤ 9223372036854775807) :
    Calls Tryz.prog 36 #[.agg #[.slice A L c,.slice P k d],.int .i64 p,.int .i64 n] w fun e w' => e = .returned (.bool (okB L p n)) ∧ Below w.heap.size w w':=by
  by_cases h0 : n = 0
  · have H : Hid (okB L p n = true):=(okB_iff _ _ _).2 (.inl h0)
    subst h0;go_enter Tryz.func36,Tryz.ntmps36;go_wp2;go_ret;exact ⟨ret_bool H.out.symm,(Below.refl _ _).alloc (Nat.le_refl _) _⟩
  · have h1 : (n == 0) = false:=by simp [h0]
    by_cases h2 : 0 < n ∧ 0 ≤ p ∧ p ≤ (L : Int) - n
    · have H : Hid (okB L p n = true):=(okB_iff _ _ _).2 (.inr h2)
      obtain ⟨h3,h4,h5⟩:=h2;have h6 : n ≤ (L : Int):=by omega
      clear h0;go_enter Tryz.func36,Tryz.ntmps36;go_wp2;go_ret;exact ⟨ret_bool H.out.symm,(Below.refl _ _).alloc (Nat.le_refl _) _⟩
    · have H : Hid (okB L p n = false):=(okB_no _ _ _).2 (by omega)
      by_cases h3 : 0 < n
      · by_cases h4 : 0 ≤ p
        · have h5 : decide (p ≤ (L : Int) - n) = false:=by simp; omega
          by_cases h6 : n ≤ (L : Int)
          · clear h0 h2
            go_enter Tryz.func36,Tryz.ntmps36;go_wp2;go_ret;exact ⟨ret_bool H.out.symm,(Below.refl _ _).alloc (Nat.le_refl _) _⟩
          · have h7 : decide (n ≤ (L : Int)) = false:=by simp; omega
            clear h0 h2 h6;go_enter Tryz.func36,Tryz.ntmps36;go_wp2;go_ret;exact ⟨ret_bool H.out.symm,(Below.refl _ _).alloc (Nat.le_refl _) _⟩
        · have h4 : decide (0 ≤ p) = false:=by simp; omega
          clear h0 h2;go_enter Tryz.func36,Tryz.ntmps36;go_wp2;go_ret;exact ⟨ret_bool H.out.symm,(Below.refl _ _).alloc (Nat.le_refl _) _⟩
      · have h3 : decide (0 < n) = false:=by simp; omega
        clear h0 h2;go_enter Tryz.func36,Tryz.ntmps36;go_wp2;go_ret;exact ⟨ret_bool H.out.symm,(Below.refl _ _).alloc (Nat.le_refl _) _⟩


theorem run_copy_two {P : Program} (w : World) (dT sT ty elem : TypeId) (g dLen dCap : Nat) (A : Option Addr) (sLen sCap : Nat) (cur : Array Value) (t : TypeId) (cs : List Value)
    (hu : P.underlying dT = some (.slice elem)) (hs : (P.info? elem).map (·.size) = some 2)
    (hg : w.heap[g]? = some (.cells cur t (0,0))) (hn : cs.length = Nat.min sLen dLen * 2)
    (hsrc : Lies w A cs) (hfit : cs.length ≤ cur.size) (h1 : ∀ v ∈ cs,v.oneCell' = true) :
    (Builtin.copy_ #[dT,sT] ty #[.slice (some ⟨g,0,none⟩) dLen dCap,.slice A sLen sCap]).run P w =
      .ok (goInt (Nat.min sLen dLen)) (w.setRow g (cs ++ cur.toList.drop cs.length).toArray):=by
  have hst:=run_storeCells_at P g 0 t cs 0 cur w hg (by simpa using hfit) h1;cases hq : P.info? elem with
  | none => simp [hq] at hs
  | some i =>
    have hi : i.size = 2:=by simpa [hq] using hs
    rcases hsrc with rfl | ⟨g2,o2,rfl,_,hc⟩
    · have h0 : Nat.min sLen dLen = 0:=by simp at hn; omega
      have hl : ∀ (x : Addr),(loadCells x 0).run P w = .ok #[] w:=fun x => by simpa using run_loadCells_list (P:=P) w x [] (by simp)
      have e : w.setRow g ([] ++ cur.toList.drop ([] : List Value).length).toArray = w:=by simpa using setRow_self w g cur t (0,0) hg
      rw [e];cases A <;> simp [Builtin.copy_,run_underlying hu,Builtin.lenOf,Builtin.firstCells,sizeOf,typeInfo,hq,h0,storeCells,hl]
    · have hl:=run_loadCells_list (P:=P) w ⟨g2,o2,none⟩ cs (fun j v hv => by rw [add_at]; exact hc j v hv)
      rw [hn] at hl;simp at hst;simp [Builtin.copy_,run_underlying hu,Builtin.lenOf,Builtin.firstCells,sizeOf,typeInfo,hq,hi,hl,hst]
theorem wpList_copy_two {P : Program} {w : World} {ops : Array Oper} {rest : List Oper} {o : Oper} {a : Act} {Q : Exit → Act → World → Prop} (hgd : o.guard = none) (d s : Operand) (dT sT : TypeId)
    (ho : o.op = .call { callee:=.builtin .copy,args:=#[d,s],argTypes:=#[dT,sT] }) (elem : TypeId) (hu : P.underlying dT = some (.slice elem)) (hsz : (P.info? elem).map (·.size) = some 2)
    (g dLen dCap : Nat) (A : Option Addr) (sLen sCap : Nat) (hd : a.eval d = .slice (some ⟨g,0,none⟩) dLen dCap) (hs : a.eval s = .slice A sLen sCap)
    (cur : Array Value) (t : TypeId) (hg : w.heap[g]? = some (.cells cur t (0,0))) (cs : List Value) (hn : cs.length = Nat.min sLen dLen * 2)
    (hsrc : Lies w A cs) (hfit : cs.length ≤ cur.size) (h1 : ∀ v ∈ cs,v.oneCell' = true)
    (h : wpList P ops Q rest (a.put o.dst (goInt (Nat.min sLen dLen))) (w.setRow g (cs ++ cur.toList.drop cs.length).toArray)) : wpList P ops Q (o :: rest) a w:=by
  refine wpList_plain hgd fun K hK => ?_
  have hrun:=run_copy_two (P:=P) w dT sT o.type elem g dLen dCap A sLen sCap cur t cs hu hsz hg hn hsrc hfit h1;unfold Oper.wp;simp [execOp,ho,resolve,invoke,builtin,hd,hs,hrun,Result.andThen];exact hK _ _ h
theorem wpList_copy_two' {P : Program} {w : World} {ops : Array Oper} {rest : List Oper} {o : Oper} {a : Act} {Q : Exit → Act → World → Prop} (hgd : o.guard = none) (d s : Operand) (dT sT : TypeId)
    (ho : o.op = .call { callee:=.builtin .copy,args:=#[d,s],argTypes:=#[dT,sT] }) (elem : TypeId) (hu : P.underlying dT = some (.slice elem)) (hsz : (P.info? elem).map (·.size) = some 2)
    (g dLen dCap : Nat) (A : Option Addr) (sLen sCap : Nat) (hd : a.eval d = .slice (some ⟨g,0,none⟩) dLen dCap) (hs : a.eval s = .slice A sLen sCap)
    (cur : Array Value) (t : TypeId) (hg : w.heap[g]? = some (.cells cur t (0,0))) (cs : List Value) (hn : cs.length = Nat.min sLen dLen * 2)
    (hsrc : Lies w A cs) (hfit : cs.length ≤ cur.size) (h1 : ∀ v ∈ cs,v.oneCell' = true)
    (h : ∀ w',Hid (w'.heap[g]? = some (.cells (cs ++ cur.toList.drop cs.length).toArray t (0,0))) → RowSet g w w' → wpList P ops Q rest (a.put o.dst (goInt (Nat.min sLen dLen))) w') : wpList P ops Q (o :: rest) a w :=
  wpList_copy_two hgd d s dT sT ho elem hu hsz g dLen dCap A sLen sCap hd hs cur t hg cs hn hsrc hfit h1 (h _ (setRow_heap w g _ _ t _ hg) (rowSet_setRow _ _ _))
theorem set_two (X D : List Value) (n : Nat) (p : Int) (v : Value) (hx : X.length = 2 * n) (hd : D.length = 2) : (((X ++ D).toArray.setIfInBounds (n * 2) (.int .i64 p)).setIfInBounds (n * 2 + 1) v) = (X ++ pc [(p,v)]).toArray:=by
  match D,hd with
  | [a,b],_ =>
    have e1 : n * 2 = X.length:=by omega
    rw [e1];simp [pc]
theorem info_patch : (Tryz.prog.info? 86).map (fun i => (i.zero,i.size,i.bytes)) = some (some (.agg #[.int .i64 0,.slice none 0 0]),2,32):=by kernel_rfl
theorem pc_one {w : World} {qs : List Qt} {ps : List Pt} (h : Tells w qs ps) : ∀ v ∈ pc qs,v.oneCell' = true:=by
  intro v hv;unfold pc at hv;rw [List.mem_flatMap] at hv;obtain ⟨q,hq,hv⟩:=hv;obtain ⟨i,hi,rfl⟩:=List.mem_iff_getElem.1 hq;have hp : i < ps.length:=by rw [← h.1]; exact hi
  obtain ⟨_,A,c,e,_⟩:=h.2 i _ _ (List.getElem?_eq_getElem hi) (List.getElem?_eq_getElem hp);simp at hv
  rcases hv with rfl | rfl
  · rfl
  · rw [e]; rfl
theorem with_any (A : Option Addr) (n c : Nat) (qs : List Qt) (p : Int) (B : Option Addr) (k e : Nat) (w : World) (hl : qs.length = n) (hn : n ≤ 1000) (h : Lies w A (pc qs)) (h1 : ∀ v ∈ pc qs,v.oneCell' = true) :
    Calls Tryz.prog 273 #[.slice A n c,.agg #[.int .i64 p,.slice B k e]] w fun e' w' => ∃ g,e' = .returned (.slice (some ⟨g,0,none⟩) (n + 1) (n + 1)) ∧ w.heap.size ≤ g ∧ w'.heap[g]? = some (.cells (pc (qs ++ [(p,.slice B k e)])).toArray 86 (0,0)) ∧ Below w.heap.size w w':=by
  obtain ⟨i0,hi,hz0,hz1,hz2⟩:=info_parts info_patch;obtain ⟨Z,hZ⟩ : ∃ Z,Z = madeCells (Value.agg #[.int .i64 0,.slice none 0 0]).cells ((n + 1) * 2):=⟨_,rfl⟩;obtain ⟨X,hX⟩ : ∃ X,X = pc qs:=⟨_,rfl⟩;have hmk : ∀ w : World,(Instr.makeSlice 27 (.int .i64 ((n : Int) + 1)) (.int .i64 ((n : Int) + 1))).run Tryz.prog w = .ok (.slice (some ⟨w.heap.size,0,none⟩) (n + 1) (n + 1)) (w.alloc (.cells Z 86)):=by
    intro w;have:=run_make (P:=Tryz.prog) w 27 86 i0 (.agg #[.int .i64 0,.slice none 0 0]) Tryz.underlying27 hi hz0 .i64 .i64 ((n : Int) + 1) ((n : Int) + 1) (by omega) (Int.le_refl _) (by rw [hz2]; omega) (by omega);rw [hz1] at this;rw [hZ];simpa using this
  have HZ : Hid (Z.size = 2 * n + 2):=by rw [hZ,size_madeCells]; show _ = _; omega
  have HX : Hid (X.length = 2 * n):=by rw [hX,pc_len,hl]; rfl
  have HL : Hid (Lies w A X):=by rw [hX]; exact h
  have H1 : Hid (∀ v ∈ X,v.oneCell' = true):=by rw [hX]; exact h1
  have HE:=zqh hX;clear h h1 hX hZ hl hi hz0 hz1 hz2;go_enter Tryz.func273,Tryz.ntmps273;(go_wp2_with (with_reducible refine wpList_copy_two' rfl (.tmp 10) (.tmp 11) 27 27 rfl 86 Tryz.underlying27 ?c0 (w.heap.size + 1) (n + 1) (n + 1) A n c rfl rfl Z 86 ?c1 X ?c2 ?c3 ?c4 ?c5 ?_))
  case c0 => kernel_rfl
  case c1 => exact (two_new _ _ _ _ _).1
  case c2 => rw [HX.out]; show _ = min n (n + 1) * 2; omega
  case c3 => exact HL.out.keep (((Below.refl _ _).alloc (Nat.le_refl _) _).alloc (by simp) _)
  case c4 => rw [HX.out,HZ.out]; omega
  case c5 => exact H1.out
  intro w2 hg2 rs;obtain ⟨Y,hY⟩ : ∃ Y,Y = X ++ Z.toList.drop X.length:=⟨_,rfl⟩;have HY : Hid (Y = X ++ Z.toList.drop X.length):=hY;have HYL : Hid (Y.length = 2 * n + 2):=by rw [hY]; have x:=HX.out; have z:=HZ.out; show _ = _; simp [x,z]
  rw [← hY] at hg2;clear hY;have k0 : w2.cell? ⟨w.heap.size,0,none⟩ = some (.int .i64 p):=by
    rw [rs.cell (by simp)];exact cells_at (cs:=[.int .i64 p,.slice B k e]) (two_new _ _ _ _ _).2 0 _ rfl
  have k1 : w2.cell? ⟨w.heap.size,1,none⟩ = some (.slice B k e):=by
    rw [rs.cell (by simp)];exact cells_at (cs:=[.int .i64 p,.slice B k e]) (two_new _ _ _ _ _).2 1 _ rfl
  have k2 : w2.cell? ⟨w.heap.size + 1,n * 2,none⟩ = some (Y[n * 2]'(by rw [HYL.out]; omega)):=by
    simp [World.cell?,hg2.out]
  have k3 : w2.cell? ⟨w.heap.size + 1,n * 2 + 1,none⟩ = some (Y[n * 2 + 1]'(by rw [HYL.out]; omega)):=by
    simp [World.cell?,hg2.out]
  have f2 : ∀ i,w2.frozen? ⟨w.heap.size + 1,i,none⟩ = false:=fun i => by simp [World.frozen?,hg2.out]
  have RS:=zqh rs;clear rs;go_wp2;go_ret;refine ⟨w.heap.size + 1,rfl,by omega,?_,((RS.out.below (Nat.le_refl _)).mono (by simp : w.heap.size ≤ w.heap.size + 1) |> fun b => ((((Below.refl w.heap.size w).alloc (Nat.le_refl _) _).alloc (by simp) _).trans b)).setCell (by simp) _ |>.setCell (by simp) _⟩;rw [Go.Joins.block_setCell (Go.Joins.block_setCell hg2.out _),pc_app];have x:=HX.out;have z:=HZ.out;rw [HY.out,← HE.out]
  congr 2
  exact set_two X _ n p _ x (by simp [x,z])


def Box (w : World) (b : Nat) (x y : Value) (t : TypeId) : Prop:=w.heap[b]? = some (.cells #[x,y] t (0,0))
theorem Box.lt {w : World} {b : Nat} {x y : Value} {t : TypeId} (h : Box w b x y t) : b < w.heap.size:=(Array.getElem?_eq_some_iff.1 h).1
theorem Box.keep {w w' : World} {b : Nat} {x y : Value} {t : TypeId} (h : Box w b x y t) (k : Below w.heap.size w w') : Box w' b x y t:=(k.block b h.lt).trans h
theorem Box.row {w w' : World} {b g : Nat} {x y : Value} {t : TypeId} (h : Box w b x y t) (k : RowSet g w w') (hb : b ≠ g) : Box w' b x y t:=(k.other b hb).trans h
theorem Box.use {w : World} {b : Nat} {x y : Value} {t : TypeId} (h : Box w b x y t) : w.cell? ⟨b,0,none⟩ = some x ∧ w.cell? ⟨b,1,none⟩ = some y ∧ w.frozen? ⟨b,0,none⟩ = false ∧ w.frozen? ⟨b,1,none⟩ = false:=by
  unfold Box at h;refine ⟨?_,?_,?_,?_⟩ <;> simp [World.cell?,World.frozen?,h]
theorem box_new (w : World) (x y : Value) (t : TypeId) : Box (w.alloc (.cells #[x,y] t)) w.heap.size x y t:=one_new w _ t
theorem box_two (w : World) (x y x' y' : Value) (t t' : TypeId) : Box ((w.alloc (.cells #[x,y] t)).alloc (.cells #[x',y'] t')) w.heap.size x y t ∧ Box ((w.alloc (.cells #[x,y] t)).alloc (.cells #[x',y'] t')) (w.heap.size + 1) x' y' t' :=
  ⟨(two_new w _ _ _ _).2,(two_new w _ _ _ _).1⟩
theorem below_two {w w1 : World} {o o' : Obj} (b : Below ((w.alloc o).alloc o').heap.size ((w.alloc o).alloc o') w1) : Below w.heap.size w w1 :=
  (((Below.refl _ w).alloc (Nat.le_refl _) o).alloc (by simp) o').trans (b.mono (by simp; omega))
theorem Box.put {w : World} {b : Nat} {x y : Value} {t : TypeId} (h : Box w b x y t) (x' y' : Value) : Box ((w.setCell ⟨b,0,none⟩ x').setCell ⟨b,1,none⟩ y') b x' y' t:=by
  have h1 : (w.setCell ⟨b,0,none⟩ x').heap[b]? = some (.cells (#[x,y].setIfInBounds 0 x') t (0,0)):=Go.Joins.block_setCell h x';have h2:=Go.Joins.block_setCell (i:=1) h1 y';simpa [Box] using h2
theorem Box.got {w : World} {b : Nat} {x y : Value} {t : TypeId} (h : Box w b x y t) (x' y' : Value) : (w.setCell ⟨b,0,none⟩ x').cell? ⟨b,0,none⟩ = some x' ∧ ((w.setCell ⟨b,0,none⟩ x').setCell ⟨b,1,none⟩ y').cell? ⟨b,1,none⟩ = some y':=by
  constructor
  · have h1 : (w.setCell ⟨b,0,none⟩ x').heap[b]? = some (.cells (#[x,y].setIfInBounds 0 x') t (0,0)):=Go.Joins.block_setCell h x'
    simp [World.cell?,h1]
  · exact (h.put x' y').use.2.1
theorem Byt.len {w : World} {A : Option Addr} {n c : Nat} {l : List UInt8} (h : Byt w (.slice A n c) l) : l.length = n:=by
  obtain ⟨A',c',e,_⟩:=h;injection e with _ e _
  exact e.symm
theorem Byt.lies {w : World} {A : Option Addr} {n c : Nat} {l : List UInt8} (h : Byt w (.slice A n c) l) : Lies w A (u8s l):=by
  obtain ⟨A',c',e,_,_,hl⟩:=h;injection e with e _ _
  subst e;exact hl
theorem Byt.form {w : World} {u : Value} {l : List UInt8} (h : Byt w u l) : ∃ A c,u = .slice A l.length c:=by
  obtain ⟨A,c,e,_⟩:=h;exact ⟨A,c,e⟩
theorem IsMem.byt {w : World} {x y : Value} {m : PM} (h : IsMem w (.agg #[x,y]) m) : Byt w x m.1:=by
  obtain ⟨x',y',e,hb,_⟩:=h;injection e with e
  simp at e;rw [e.1];exact hb
theorem IsMem.pats {w : World} {x y : Value} {m : PM} (h : IsMem w (.agg #[x,y]) m) : Pats w y m.2:=by
  obtain ⟨x',y',e,_,hb⟩:=h;injection e with e
  simp at e;rw [e.2];exact hb
theorem IsMem.len1 {w : World} {A : Option Addr} {L c : Nat} {y : Value} {m : PM} (h : IsMem w (.agg #[.slice A L c,y]) m) : m.1.length = L:=h.byt.len
theorem IsMem.len2 {w : World} {P : Option Addr} {K d : Nat} {x : Value} {m : PM} (h : IsMem w (.agg #[x,.slice P K d]) m) : m.2.length = K:=by
  obtain ⟨A',c',qs,e,_⟩:=h.pats;injection e with _ e _
  exact e.symm
theorem IsMem.patq {w : World} {P : Option Addr} {K d : Nat} {x : Value} {m : PM} (h : IsMem w (.agg #[x,.slice P K d]) m) : ∃ qs : List Qt,Hid (qs.length = K) ∧ Lies w P (pc qs) ∧ Tells w qs m.2:=by
  have e2:=h.len2;obtain ⟨A',c',qs,e,_,_,hl,ht⟩:=h.pats;injection e with e _ _
  subst e;exact ⟨qs,ht.1.trans e2,hl,ht⟩
theorem mem_mk {w : World} {x y : Value} {m : PM} (h : Byt w x m.1) (k : Pats w y m.2) : IsMem w (.agg #[x,y]) m:=⟨x,y,rfl,h,k⟩
theorem text_at (A P : Option Addr) (L c K d : Nat) (m : PM) (p n : Int) (w : World) (h : IsMem w (.agg #[.slice A L c,.slice P K d]) m) (hL : L ≤ 65536) (hn : n ≤ 9223372036854775807) :
    Calls Tryz.prog 210 #[.agg #[.slice A L c,.slice P K d],.int .i64 p,.int .i64 n] w fun e w' => ∃ B k e',e = .returned (.tuple #[.slice B k e',.int .i64 (codeF (okB L p n))]) ∧ Byt w' (.slice B k e') (textF m p n) ∧ Below w.heap.size w w':=by
  have e1:=h.len1;have c:=text_any _ m p n w h (by omega) hn;rw [e1] at c;refine c.mono fun e w' ⟨u,he,hu,hb⟩ => ?_
  obtain ⟨B,k,rfl⟩:=hu.form;exact ⟨B,_,k,he,hu,hb⟩
theorem Box.two {w : World} {b : Nat} {A P : Option Addr} {n c k d : Nat} {t : TypeId} (h : Box w b (.slice A n c) (.slice P k d) t) {o : Nat} {v : Value} (hc : w.cell? ⟨b,o,none⟩ = some v) : ∃ A n c,v = .slice A n c:=by
  unfold Box at h;simp [World.cell?,h] at hc
  match o,hc with
  | 0,hc => simp at hc; exact ⟨_,_,_,hc.symm⟩
  | 1,hc => simp at hc; exact ⟨_,_,_,hc.symm⟩
  | o + 2,hc => simp at hc
theorem Lies.row {w w' : World} {b : Nat} {A P A' : Option Addr} {n c k d : Nat} {t : TypeId} {xs : List Value} (h : Lies w A' xs) (hb : Box w b (.slice A n c) (.slice P k d) t) (rs : RowSet b w w') (hi : ∀ v r,xs = v :: r → ∃ q i,v = .int q i) : Lies w' A' xs:=by
  rcases h with h | ⟨g,o,e,hg,hc⟩
  · exact .inl h
  · match xs,hi,hc with
    | [],_,_ => exact .inl rfl
    | v :: r,hi,hc =>
      have hne : g ≠ b:=by
        intro e;subst e;obtain ⟨q,i,rfl⟩:=hi v r rfl;obtain ⟨_,_,_,hv⟩:=hb.two (hc 0 _ rfl);cases hv
      exact .inr ⟨g,o,e,by rw [rs.size]; exact hg,fun j v hv => (rs.cell hne).trans (hc j v hv)⟩
theorem u8s_head (l : List UInt8) : ∀ v r,u8s l = v :: r → ∃ q i,v = Value.int q i:=by
  intro v r h;cases l with
  | nil => simp [u8s] at h
  | cons x l => simp [u8s] at h; exact ⟨_,_,h.1.symm⟩
theorem pc_head (qs : List Qt) : ∀ v r,pc qs = v :: r → ∃ q i,v = Value.int q i:=by
  intro v r h;cases qs with
  | nil => simp [pc] at h
  | cons x l => rw [pc_cons] at h; injection h with h _; exact ⟨_,_,h.symm⟩
theorem Byt.row {w w' : World} {b : Nat} {A P : Option Addr} {n c k d : Nat} {t : TypeId} {v : Value} {l : List UInt8} (h : Byt w v l) (hb : Box w b (.slice A n c) (.slice P k d) t) (rs : RowSet b w w') : Byt w' v l:=by
  obtain ⟨A',c',h1,h2,h3,h4⟩:=h;exact ⟨A',c',h1,h2,h3,h4.row hb rs (u8s_head l)⟩
theorem Tells.row {w w' : World} {b : Nat} {A P : Option Addr} {n c k d : Nat} {t : TypeId} {qs : List Qt} {ps : List Pt} (h : Tells w qs ps) (hb : Box w b (.slice A n c) (.slice P k d) t) (rs : RowSet b w w') : Tells w' qs ps :=
  ⟨h.1,fun i q p hq hp => ⟨(h.2 i q p hq hp).1,(h.2 i q p hq hp).2.row hb rs⟩⟩
theorem IsMem.row {w w' : World} {b : Nat} {A P : Option Addr} {n c k d : Nat} {t : TypeId} {v : Value} {m : PM} (h : IsMem w v m) (hb : Box w b (.slice A n c) (.slice P k d) t) (rs : RowSet b w w') : IsMem w' v m:=by
  obtain ⟨x,y,h1,h2,A',c',qs,e,h3,h4,h5,h6⟩:=h;exact ⟨x,y,h1,h2.row hb rs,A',c',qs,e,h3,h4,h5.row hb rs (pc_head qs),h6.row hb rs⟩
theorem row_put (w : World) (b : Nat) (x y : Value) : RowSet b w ((w.setCell ⟨b,0,none⟩ x).setCell ⟨b,1,none⟩ y) :=
  ⟨rfl,rfl,rfl,by simp [World.setCell],fun k hk => (Below.heap_setCell _ _ _ k hk).trans (Below.heap_setCell _ _ _ k hk)⟩
theorem write_no (A P A2 : Option Addr) (L c K d n c2 : Nat) (m : PM) (p : Int) (w : World) (HM : Hid (IsMem w (.agg #[.slice A L c,.slice P K d]) m)) (hL : L ≤ 65536) (hn : n ≤ 65536) (hno : okB L p n = false ∨ n = 0) :
    Calls Tryz.prog 230 #[.agg #[.slice A L c,.slice P K d],.int .i64 p,.slice A2 n c2] w fun e w' => e = .returned (.tuple #[.agg #[.slice A L c,.slice P K d],.int .i64 (codeF (okB L p n))]) ∧ Below w.heap.size w w':=by
  cases ok : okB L p n with
  | false =>
    clear hno;go_enter Tryz.func230,Tryz.ntmps230;(go_wp2_with fail);refine (text_at _ _ _ _ _ _ m _ _ _ (HM.out.keep (((Below.refl _ w).alloc (Nat.le_refl _) _).alloc (by simp) _)) hL (by omega)).mono ?_;rw [ok,codeF_no];rintro e w1 ⟨B,k,e',rfl,hu1,b1⟩;obtain ⟨k0,k1⟩:=box_two w (.slice A L c) (.slice P K d) (.slice none 0 0) (.slice none 0 0) 29 29;obtain ⟨q0,q1,_,_⟩:=(k0.keep b1).use;obtain ⟨q2,q3,q4,q5⟩:=(k1.keep b1).use;have HG:=zqh ((k1.keep b1).got (.slice A L c) (.slice P K d));have HB:=zqh (below_two b1);clear k0 k1 b1 hu1;(go_wp2_with fail);refine bodyPost_ret (v:=.tuple #[.agg #[.slice A L c,.slice P K d],.int .i64 (-9)]) ?_ rfl ?_
    · obtain ⟨r0,r1⟩:=HG.out
      simp [results,Tryz.results230,go_sem,r0,r1]
    · exact ⟨rfl,(HB.out.setCell (by simp) _).setCell (by simp) _⟩
  | true =>
    have h0 : n = 0:=hno.resolve_left (by simp [ok]);subst h0;clear hno;go_enter Tryz.func230,Tryz.ntmps230;(go_wp2_with fail);refine (text_at _ _ _ _ _ _ m _ _ _ (HM.out.keep (((Below.refl _ w).alloc (Nat.le_refl _) _).alloc (by simp) _)) hL (by omega)).mono ?_;rw [show okB L p 0 = true from ok,codeF_yes];rintro e w1 ⟨B,k,e',rfl,hu1,b1⟩;obtain ⟨k0,k1⟩:=box_two w (.slice A L c) (.slice P K d) (.slice none 0 0) (.slice none 0 0) 29 29;obtain ⟨q0,q1,_,_⟩:=(k0.keep b1).use;obtain ⟨q2,q3,q4,q5⟩:=(k1.keep b1).use;have HG:=zqh ((k1.keep b1).got (.slice A L c) (.slice P K d));have HB:=zqh (below_two b1);clear k0 k1 b1 hu1;(go_wp2_with fail);refine bodyPost_ret (v:=.tuple #[.agg #[.slice A L c,.slice P K d],.int .i64 0]) ?_ rfl ?_
    · obtain ⟨r0,r1⟩:=HG.out
      simp [results,Tryz.results230,go_sem,r0,r1]
    · exact ⟨rfl,(HB.out.setCell (by simp) _).setCell (by simp) _⟩


theorem cellC_no {L : Nat} {p : Int} (h : okB L p 8 = false) : cellC L p = -9:=by unfold cellC; rw [h]; rfl
theorem cellC_align {L : Nat} {p : Int} (h : okB L p 8 = true) (h8 : p % 8 ≠ 0) : cellC L p = -23:=by unfold cellC; rw [if_pos h,if_neg h8]
theorem cellC_ok {L : Nat} {p : Int} (h : okB L p 8 = true) (h8 : p % 8 = 0) : cellC L p = 0:=by unfold cellC; rw [if_pos h,if_pos h8]
theorem cellCode_any (A P : Option Addr) (L c K d : Nat) (p : Int) (w : World) (hL : L ≤ 65536) :
    Calls Tryz.prog 56 #[.agg #[.slice A L c,.slice P K d],.int .i64 p] w fun e w' => e = .returned (.int .i64 (cellC L p)) ∧ Below w.heap.size w w':=by
  cases ok : okB L p 8 with
  | false =>
    have H:=zqh (cellC_no ok);go_enter Tryz.func56,Tryz.ntmps56;(go_wp2_with (go_at_call 72; (with_reducible refine (there_any _ _ _ _ _ _ _ _ _ (by omega) (by omega)).mono ?_); rintro e w1 ⟨rfl,b1⟩));go_ret;exact ⟨ret_int H.out.symm,box_below b1⟩
  | true =>
    have hok:=(okB_iff _ _ _).1 ok;have h0 : 0 ≤ p:=by omega
    by_cases h8 : p % 8 = 0
    · have H:=zqh (cellC_ok ok h8)
      have h8' : (p % 8 != 0) = false:=by simp [h8]
      clear h8 hok;go_enter Tryz.func56,Tryz.ntmps56;(go_wp2_with (go_at_call 72; (with_reducible refine (there_any _ _ _ _ _ _ _ _ _ (by omega) (by omega)).mono ?_); rintro e w1 ⟨rfl,b1⟩));go_ret;exact ⟨ret_int H.out.symm,box_below b1⟩
    · have H:=zqh (cellC_align ok h8)
      have h8' : (p % 8 != 0) = true:=by simp [h8]
      clear h8 hok;go_enter Tryz.func56,Tryz.ntmps56;(go_wp2_with (go_at_call 72; (with_reducible refine (there_any _ _ _ _ _ _ _ _ _ (by omega) (by omega)).mono ?_); rintro e w1 ⟨rfl,b1⟩));go_ret;exact ⟨ret_int H.out.symm,box_below b1⟩
theorem rcellAt_any (A P : Option Addr) (L c K d : Nat) (p : Int) (w : World) (hL : L ≤ 65536) :
    Calls Tryz.prog 23 #[.agg #[.slice A L c,.slice P K d],.int .i64 p] w fun e w' => e = .returned (.int .i64 (cellC L p)) ∧ Below w.heap.size w w':=by
  cases ok : okB L p 8 with
  | false =>
    have H:=zqh (cellC_no ok);go_enter Tryz.func23,Tryz.ntmps23;(go_wp2_with (go_at_call 36; (with_reducible refine (rthere_any _ _ _ _ _ _ _ _ _ (by omega) (by omega)).mono ?_); rintro e w1 ⟨rfl,b1⟩));go_ret;exact ⟨ret_int H.out.symm,box_below b1⟩
  | true =>
    have hok:=(okB_iff _ _ _).1 ok;have h0 : 0 ≤ p:=by omega
    by_cases h8 : p % 8 = 0
    · have H:=zqh (cellC_ok ok h8)
      have h8' : (p % 8 != 0) = false:=by simp [h8]
      clear h8 hok;go_enter Tryz.func23,Tryz.ntmps23;(go_wp2_with (go_at_call 36; (with_reducible refine (rthere_any _ _ _ _ _ _ _ _ _ (by omega) (by omega)).mono ?_); rintro e w1 ⟨rfl,b1⟩));go_ret;exact ⟨ret_int H.out.symm,box_below b1⟩
    · have H:=zqh (cellC_align ok h8)
      have h8' : (p % 8 != 0) = true:=by simp [h8]
      clear h8 hok;go_enter Tryz.func23,Tryz.ntmps23;(go_wp2_with (go_at_call 36; (with_reducible refine (rthere_any _ _ _ _ _ _ _ _ _ (by omega) (by omega)).mono ?_); rintro e w1 ⟨rfl,b1⟩));go_ret;exact ⟨ret_int H.out.symm,box_below b1⟩
def byteF (m : PM) (p : Int) : Int:=if okB m.1.length p 1 = true then ((m.1.getD p.toNat 0).toNat : Int) else 0
theorem byteF_no {m : PM} {p : Int} (h : okB m.1.length p 1 = false) : byteF m p = 0:=by unfold byteF; rw [h]; rfl
theorem mem_cell {w : World} {A : Option Addr} {L c : Nat} {y : Value} {m : PM} (h : IsMem w (.agg #[.slice A L c,y]) m) {q : Nat} (hq : q < L) : ∃ g o,A = some ⟨g,o,none⟩ ∧ g < w.heap.size ∧ w.cell? ⟨g,o + q,none⟩ = some (.int .u8 ((m.1.getD q 0).toNat : Int)) ∧ L ≤ c:=by
  have hl:=h.len1;have hb:=h.byt;have hlies:=hb.lies;have hc : L ≤ c:=by
    obtain ⟨A',c',e,h2,_⟩:=hb;injection e with _ _ e
    omega
  rcases hlies with e | ⟨g,o,e,hg,hcell⟩
  · have:=congrArg List.length e
    rw [u8s_len,hl] at this;simp at this;omega
  · refine ⟨g,o,e,hg,hcell q _ ?_,hc⟩
    rw [u8s_at (by omega)];simp [List.getD,List.getElem?_eq_getElem (by omega : q < m.1.length)]
theorem fetchByte_at (A P : Option Addr) (L c K d : Nat) (m : PM) (p : Int) (w : World) (HM : Hid (IsMem w (.agg #[.slice A L c,.slice P K d]) m)) (hL : L ≤ 65536) :
    Calls Tryz.prog 149 #[.agg #[.slice A L c,.slice P K d],.int .i64 p] w fun e w' => e = .returned (.tuple #[.int .i64 (byteF m p),.int .i64 (codeF (okB L p 1))]) ∧ Below w.heap.size w w':=by
  cases ok : okB L p 1 with
  | false =>
    have H : Hid (byteF m p = 0):=byteF_no (by rw [HM.out.len1]; exact ok);rw [H.out,codeF_no];go_enter Tryz.func149,Tryz.ntmps149;(go_wp2_with (go_at_call 72; (with_reducible refine (there_any _ _ _ _ _ _ _ _ _ (by omega) (by omega)).mono ?_); rintro e w1 ⟨rfl,b1⟩));go_ret2;exact ⟨rfl,box_below b1⟩
  | true =>
    have hok:=(okB_iff _ _ _).1 ok;obtain ⟨q,rfl⟩:=Int.eq_ofNat_of_zero_le (by omega : 0 ≤ p);have hq : q < L:=by omega
    obtain ⟨g,o,rfl,hg,hc,hLc⟩:=mem_cell HM.out hq;obtain ⟨x,hx⟩ : ∃ x : UInt8,x = m.1.getD q 0:=⟨_,rfl⟩;rw [← hx] at hc;have H : Hid (byteF m q = (x.toNat : Int)):=by unfold byteF; rw [if_pos (by rw [HM.out.len1]; exact ok),hx]; simp [Hid]
    rw [H.out,codeF_yes];have hx2:=x.toNat_lt;clear hx hok;go_enter Tryz.func149,Tryz.ntmps149;(go_wp2_with fail);refine (there_any _ _ _ _ _ _ _ _ _ (by omega) (by omega)).mono ?_;rw [ok];rintro e w1 ⟨rfl,b1⟩;obtain ⟨k0,k1⟩:=box_cells b1;have hb1:=box_below b1;have hc1 : w1.cell? ⟨g,o + q,none⟩ = some (.int .u8 (x.toNat : Int)):=(hb1.cell (p:=⟨g,o + q,none⟩) hg).trans hc;have HB:=zqh hb1;clear b1 hb1 hc;(go_wp2_with fail);go_ret2;exact ⟨rfl,HB.out⟩
end Go.Proofs.YtcmldhjicjmmgaaGreatDoor
