/- Part 5. -/
import Derived.Test.YtlgnijhemfkflaaGreatDoorPaAD
import Derived.Laws.RangeAny
import Derived.Lib.OthersKept
set_option linter.unusedVariables false
set_option linter.unusedSimpArgs false
set_option maxRecDepth 100000
set_option maxHeartbeats 4000000

namespace Go.Proofs.YtlgnijhemfkflaaGreatDoor
open Go.RowKit


theorem drewN_belowW (w : World) (n : Nat) : Below w.heap.size w (w.drewN n):=⟨rfl,rfl,rfl,Nat.le_refl _,fun _ _ => rfl⟩
theorem info_word : (Tryz.prog.info? 120).map (fun i => (i.zero,i.size,i.bytes)) = some (some (.agg #[.string ⟨#[]⟩,.int .i64 0,.int .i64 0]),3,32):=by kernel_rfl
structure Wr where
  nm : List UInt8
  xt : Int
  fl : Int
  deriving DecidableEq
def wcell (q : Wr) : List Value:=[.string (strB q.nm),.int .i64 q.xt,.int .i64 q.fl]
def wds (l : List Wr) : List Value:=l.flatMap wcell
theorem wds_cons (q : Wr) (l : List Wr) : wds (q :: l) = .string (strB q.nm) :: .int .i64 q.xt :: .int .i64 q.fl :: wds l:=rfl
theorem wds_len (l : List Wr) : (wds l).length = l.length * 3:=by
  induction l with
  | nil => rfl
  | cons q l ih => rw [wds_cons]; simp [ih]; omega
theorem wds_one (l : List Wr) : ∀ v ∈ wds l,v.oneCell' = true:=by
  intro v hv;unfold wds at hv;rw [List.mem_flatMap] at hv;obtain ⟨q,_,hv⟩:=hv;unfold wcell at hv;simp at hv
  rcases hv with rfl | rfl | rfl <;> rfl
theorem wds_app (a b : List Wr) : wds (a ++ b) = wds a ++ wds b:=by simp [wds]
theorem wds_at {l : List Wr} : ∀ {j : Nat} (h : j < l.length),(wds l)[3 * j]? = some (.string (strB l[j].nm)) ∧ (wds l)[3 * j + 1]? = some (.int .i64 l[j].xt) ∧ (wds l)[3 * j + 2]? = some (.int .i64 l[j].fl):=by
  induction l with
  | nil => intro j h; simp at h
  | cons q l ih =>
    intro j h;rw [wds_cons];cases j with
    | zero => exact ⟨rfl,rfl,rfl⟩
    | succ j =>
      have:=ih (j:=j) (by simpa using h);rw [show 3 * (j + 1) = 3 * j + 1 + 1 + 1 by omega];simpa using this
def Wds (w : World) (v : Value) (l : List Wr) : Prop:=∃ A c,v = .slice A l.length c ∧ l.length ≤ c ∧ c ≤ maxLen ∧ Lies w A (wds l)
theorem Wds.keep {w w' : World} {v : Value} {l : List Wr} (h : Wds w v l) (b : Below w.heap.size w w') : Wds w' v l:=by
  obtain ⟨A,c,h1,h2,h3,h4⟩:=h;exact ⟨A,c,h1,h2,h3,h4.keep b⟩
theorem wds_nil (w : World) : Wds w (.slice none 0 0) []:=⟨none,0,rfl,Nat.le_refl _,Nat.zero_le _,.inl rfl⟩
theorem wds_block {w : World} {g : Nat} {l : List Wr} {t : TypeId} (h : w.heap[g]? = some (.cells (wds l).toArray t (0,0))) (hl : l.length ≤ 65536) : Wds w (.slice (some ⟨g,0,none⟩) l.length l.length) l :=
  ⟨_,_,rfl,Nat.le_refl _,by unfold maxLen; omega,lies_block h⟩
theorem Wds.len {w : World} {A : Option Addr} {n c : Nat} {l : List Wr} (h : Wds w (.slice A n c) l) : l.length = n:=by
  obtain ⟨A',c',e,_⟩:=h;injection e with _ e _
  exact e.symm
theorem Wds.lies {w : World} {A : Option Addr} {n c : Nat} {l : List Wr} (h : Wds w (.slice A n c) l) : Lies w A (wds l):=by
  obtain ⟨A',c',e,_,_,hl⟩:=h;injection e with e _ _
  subst e;exact hl
theorem wds_cell {w : World} {A : Option Addr} {n c : Nat} {l : List Wr} (h : Wds w (.slice A n c) l) {k : Nat} (hk : k < l.length) : ∃ g o,A = some ⟨g,o,none⟩ ∧ w.cell? ⟨g,o + k * 3,none⟩ = some (.string (strB l[k].nm)) ∧ w.cell? ⟨g,o + k * 3 + 1,none⟩ = some (.int .i64 l[k].xt) ∧ w.cell? ⟨g,o + k * 3 + 2,none⟩ = some (.int .i64 l[k].fl):=by
  rcases h.lies with h | ⟨g,o,e,_,hc⟩
  · have:=congrArg List.length h
    rw [wds_len] at this;have h0 : l.length * 3 = 0:=this;omega
  · obtain ⟨h1,h2,h3⟩:=wds_at hk
    have e1 : o + k * 3 = o + 3 * k:=by omega
    have e2 : o + k * 3 + 1 = o + (3 * k + 1):=by omega
    have e3 : o + k * 3 + 2 = o + (3 * k + 2):=by omega
    exact ⟨g,o,e,by rw [e1]; exact hc _ _ h1,by rw [e2]; exact hc _ _ h2,by rw [e3]; exact hc _ _ h3⟩
abbrev WOwns (w : World) (base : Nat) (v : Value) (n : Nat) (l : List Wr) : Prop:=w.ownsRow base 120 3 v n (wds l)
theorem WOwns.wds {w : World} {base n : Nat} {v : Value} {l : List Wr} (h : WOwns w base v n l) : Wds w v l:=by
  have hl:=h.1;rw [wds_len] at hl;have hl : l.length = n:=by omega
  subst hl
  rcases h.2 with ⟨rfl,h0⟩ | ⟨g,cap,cur,rfl,_,hg,hnc,hcm,_,ht⟩
  · have : l = []:=List.eq_nil_of_length_eq_zero h0
    subst this;exact wds_nil w
  · refine ⟨some ⟨g,0,none⟩,cap,rfl,hnc,hcm,.inr ⟨g,0,rfl,(Array.getElem?_eq_some_iff.1 hg).1,fun j x hx => ?_⟩⟩
    rw [← ht,List.getElem?_take] at hx
    split at hx
    · rw [Nat.zero_add]
      simp [World.cell?,hg];simpa using hx
    · cases hx
theorem WOwns.alloc {w : World} {base n : Nat} {v : Value} {l : List Wr} (h : WOwns w base v n l) (o : Obj) : WOwns (w.alloc o) base v n l:=World.ownsRow.alloc h o
theorem WOwns.keep {w w' : World} {base n : Nat} {v : Value} {l : List Wr} (h : WOwns w base v n l) (b : Below w.heap.size w w') : WOwns w' base v n l:=by
  refine ⟨h.1,?_⟩
  rcases h.2 with h2 | ⟨g,cap,cur,e,hb,hg,h3,h4,h5,h6⟩
  · exact .inl h2
  · exact .inr ⟨g,cap,cur,e,hb,(b.block g (Array.getElem?_eq_some_iff.1 hg).1).trans hg,h3,h4,h5,h6⟩
theorem wown_from {w : World} {base e size n : Nat} {v : Value} {xs : List Value} (h : w.ownsRow base e size v n xs) : ∀ k,v.ownBlock = some k → base ≤ k:=fun k hk => (h.lt k hk).1
theorem run_wapp {w : World} (ty : TypeId) {base n : Nat} {v : Value} {xs : List Wr} (hown : WOwns w base v n xs) {A : Option Addr} {m c : Nat} {ys : List Wr} (hr : Wds w (.slice A m c) ys) (h63 : n + m ≤ 1000000) (hbase : base ≤ w.heap.size) :
    ∃ v' w',(Builtin.append_ #[30,30] ty #[v,.slice A m c]).run Tryz.prog w = .ok v' w' ∧ WOwns w' base v' (n + m) (xs ++ ys) ∧ w.grownBy w' v.ownBlock:=by
  obtain ⟨i0,hi,hz0,hz1,hz2⟩:=info_parts info_word;have h1:=hr.len;have h4:=hr.lies;cases A with
  | some ad =>
    have hsrc : ∀ j u,(wds ys)[j]? = some u → w.cell? (ad.add j) = some u:=by
      intro j u hu
      rcases h4 with h4 | ⟨g,o,e,_,hc⟩
      · rw [h4] at hu; simp at hu
      · injection e with e
        rw [e,add_at];exact hc j u hu
    obtain ⟨v',w',ha,hb,hc,_⟩:=run_append_own (P:=Tryz.prog) w base 30 ty 120 i0 (.agg #[.string ⟨#[]⟩,.int .i64 0,.int .i64 0]) 3 32 Tryz.underlying30 hi hz0 hz1 hz2 rfl (by decide) v n (wds xs) hown ad m c (wds ys) (by rw [wds_len,h1]) hsrc (wds_one ys) (by unfold maxLen; omega) (by omega) hbase;exact ⟨v',w',ha,by have e:=wds_app xs ys; unfold WOwns; rw [e]; exact hb,hc⟩
  | none =>
    have hnil : ys = []:=by
      rcases h4 with h | ⟨_,_,h,_⟩
      · have:=congrArg List.length h
        rw [wds_len] at this;have h0 : ys.length * 3 = 0:=this;exact List.eq_nil_of_length_eq_zero (by omega)
      · cases h
    subst hnil;have hm : m = 0:=by rw [← h1]; rfl
    subst hm;refine ⟨v,w,?_,by simpa using hown,World.grownBy.refl w _⟩
    rcases hown.2 with ⟨rfl,rfl⟩ | ⟨g,cap,cur,rfl,_,_,hnc,_⟩
    · simp [Builtin.append_,run_underlying Tryz.underlying30,sizeOf,typeInfo,hi,Builtin.lenOf,Builtin.firstCells]
    · simp [Builtin.append_,run_underlying Tryz.underlying30,sizeOf,typeInfo,hi,Builtin.lenOf,Builtin.firstCells,hnc,storeCells]
theorem wapp_below {w0 w w' : World} {base n : Nat} {v : Value} {xs : List Wr} (hown : WOwns w base v n xs) (hb : Below w0.heap.size w0 w) (hg : w.grownBy w' v.ownBlock) (hB : w0.heap.size ≤ base) : Below w0.heap.size w0 w' :=
  hb.grown hg hb.size (fun k hk => Nat.le_trans hB (wown_from hown k hk))
theorem wp_wapp {o : Oper} {a : Act} {K : Act → World → Prop} {Q : Exit → Act → World → Prop} {w : World} (s x : Operand)
    (ho : o.op = .call { callee:=.builtin .append,args:=#[s,x],argTypes:=#[30,30] })
    (base : Nat) (v : Value) (n : Nat) (xs : List Wr) (hs : a.eval s = v) (hown : WOwns w base v n xs)
    (A : Option Addr) (m c : Nat) (ys : List Wr) (hx : a.eval x = .slice A m c) (hr : Wds w (.slice A m c) ys) (h63 : n + m ≤ 1000000) (hbase : base ≤ w.heap.size)
    (w0 : World) (hb : Below w0.heap.size w0 w) (hB : w0.heap.size ≤ base)
    (h : ∀ v' w',WOwns w' base v' (n + m) (xs ++ ys) → Below w0.heap.size w0 w' → w.grownBy w' v.ownBlock → K (a.put o.dst v') w') : o.wp Tryz.prog a w K Q:=by
  obtain ⟨v',w',hr,h2,h3⟩:=run_wapp o.type hown hr h63 hbase;unfold Oper.wp execOp;simp only [ho,resolve,invoke,builtin,Sem.run_bind,Sem.run_pure,Result.andThen_ok,List.map_toArray,List.map_cons,List.map_nil,hs,hx,hr];exact h v' w' h2 (wapp_below hown hb h3 hB) h3
end Go.Proofs.YtlgnijhemfkflaaGreatDoor

namespace Go.Proofs.YtlgnijhemfkflaaGreatDoor
open Go.RowKit


def solid (c : UInt8) : Bool:=decide (32 < c.toNat)
theorem solid_yes {c : UInt8} (h : 32 < c.toNat) : solid c = true:=by unfold solid; simpa using h
theorem solid_no {c : UInt8} (h : ¬ 32 < c.toNat) : solid c = false:=by unfold solid; simpa using h
def wordW : List UInt8 → List UInt8
  | [] => []
  | c :: r => if solid c = true then c :: r.takeWhile solid else wordW r
def wordT : List UInt8 → List UInt8
  | [] => []
  | c :: r => if solid c = true then (r.dropWhile solid).drop 1 else wordT r
def notC (c x : UInt8) : Bool:=decide (x ≠ c)
def uptoW (r : List UInt8) (c : UInt8) : List UInt8:=r.takeWhile (notC c)
end Go.Proofs.YtlgnijhemfkflaaGreatDoor

namespace Go.Proofs.YtlgnijhemfkflaaGreatDoor
open Go.RowKit


theorem info_str : (Tryz.prog.info? 9).map (fun i => (i.zero,i.size,i.bytes)) = some (some (.string ⟨#[]⟩),1,16):=by kernel_rfl
def sts (l : List (List UInt8)) : List Value:=l.map fun b => .string (strB b)
theorem sts_len (l : List (List UInt8)) : (sts l).length = l.length:=by simp [sts]
theorem sts_one (l : List (List UInt8)) : ∀ v ∈ sts l,v.oneCell' = true:=by
  intro v hv;unfold sts at hv;rw [List.mem_map] at hv;obtain ⟨b,_,rfl⟩:=hv;rfl
theorem sts_app (a b : List (List UInt8)) : sts (a ++ b) = sts a ++ sts b:=by simp [sts]
theorem sts_at {l : List (List UInt8)} {j : Nat} (h : j < l.length) : (sts l)[j]? = some (.string (strB l[j])):=by simp [sts,h]
def Sts (w : World) (v : Value) (l : List (List UInt8)) : Prop:=∃ A c,v = .slice A l.length c ∧ l.length ≤ c ∧ c ≤ maxLen ∧ Lies w A (sts l)
theorem Sts.keep {w w' : World} {v : Value} {l : List (List UInt8)} (h : Sts w v l) (b : Below w.heap.size w w') : Sts w' v l:=by
  obtain ⟨A,c,h1,h2,h3,h4⟩:=h;exact ⟨A,c,h1,h2,h3,h4.keep b⟩
theorem sts_nil (w : World) : Sts w (.slice none 0 0) []:=⟨none,0,rfl,Nat.le_refl _,Nat.zero_le _,.inl rfl⟩
theorem sts_block {w : World} {g : Nat} {l : List (List UInt8)} {t : TypeId} (h : w.heap[g]? = some (.cells (sts l).toArray t (0,0))) (hl : l.length ≤ 65536) : Sts w (.slice (some ⟨g,0,none⟩) l.length l.length) l :=
  ⟨_,_,rfl,Nat.le_refl _,by unfold maxLen; omega,lies_block h⟩
theorem Sts.len {w : World} {A : Option Addr} {n c : Nat} {l : List (List UInt8)} (h : Sts w (.slice A n c) l) : l.length = n:=by
  obtain ⟨A',c',e,_⟩:=h;injection e with _ e _
  exact e.symm
theorem Sts.lies {w : World} {A : Option Addr} {n c : Nat} {l : List (List UInt8)} (h : Sts w (.slice A n c) l) : Lies w A (sts l):=by
  obtain ⟨A',c',e,_,_,hl⟩:=h;injection e with e _ _
  subst e;exact hl
theorem sts_cell {w : World} {A : Option Addr} {n c : Nat} {l : List (List UInt8)} (h : Sts w (.slice A n c) l) {k : Nat} (hk : k < l.length) : ∃ g o,A = some ⟨g,o,none⟩ ∧ w.cell? ⟨g,o + k,none⟩ = some (.string (strB l[k])):=by
  rcases h.lies with h | ⟨g,o,e,_,hc⟩
  · have:=congrArg List.length h
    rw [sts_len] at this;have h0 : l.length = 0:=this;omega
  · exact ⟨g,o,e,hc k _ (sts_at hk)⟩
abbrev SOwns (w : World) (base : Nat) (v : Value) (n : Nat) (l : List (List UInt8)) : Prop:=w.ownsRow base 9 1 v n (sts l)
theorem SOwns.sts {w : World} {base n : Nat} {v : Value} {l : List (List UInt8)} (h : SOwns w base v n l) : Sts w v l:=by
  have hl:=h.1;rw [sts_len,Nat.mul_one] at hl;subst hl
  rcases h.2 with ⟨rfl,h0⟩ | ⟨g,cap,cur,rfl,_,hg,hnc,hcm,_,ht⟩
  · have : l = []:=List.eq_nil_of_length_eq_zero h0
    subst this;exact sts_nil w
  · refine ⟨some ⟨g,0,none⟩,cap,rfl,hnc,hcm,.inr ⟨g,0,rfl,(Array.getElem?_eq_some_iff.1 hg).1,fun j x hx => ?_⟩⟩
    rw [← ht,List.getElem?_take] at hx
    split at hx
    · rw [Nat.zero_add]
      simp [World.cell?,hg];simpa using hx
    · cases hx
theorem SOwns.alloc {w : World} {base n : Nat} {v : Value} {l : List (List UInt8)} (h : SOwns w base v n l) (o : Obj) : SOwns (w.alloc o) base v n l:=World.ownsRow.alloc h o
theorem SOwns.keep {w w' : World} {base n : Nat} {v : Value} {l : List (List UInt8)} (h : SOwns w base v n l) (b : Below w.heap.size w w') : SOwns w' base v n l:=by
  refine ⟨h.1,?_⟩
  rcases h.2 with h2 | ⟨g,cap,cur,e,hb,hg,h3,h4,h5,h6⟩
  · exact .inl h2
  · exact .inr ⟨g,cap,cur,e,hb,(b.block g (Array.getElem?_eq_some_iff.1 hg).1).trans hg,h3,h4,h5,h6⟩
theorem sown_from {w : World} {base e size n : Nat} {v : Value} {xs : List Value} (h : w.ownsRow base e size v n xs) : ∀ k,v.ownBlock = some k → base ≤ k:=fun k hk => (h.lt k hk).1
theorem run_sapp {w : World} (ty : TypeId) {base n : Nat} {v : Value} {xs : List (List UInt8)} (hown : SOwns w base v n xs) {A : Option Addr} {m c : Nat} {ys : List (List UInt8)} (hr : Sts w (.slice A m c) ys) (h63 : n + m ≤ 1000000) (hbase : base ≤ w.heap.size) :
    ∃ v' w',(Builtin.append_ #[50,50] ty #[v,.slice A m c]).run Tryz.prog w = .ok v' w' ∧ SOwns w' base v' (n + m) (xs ++ ys) ∧ w.grownBy w' v.ownBlock:=by
  obtain ⟨i0,hi,hz0,hz1,hz2⟩:=info_parts info_str;have h1:=hr.len;have h4:=hr.lies;cases A with
  | some ad =>
    have hsrc : ∀ j u,(sts ys)[j]? = some u → w.cell? (ad.add j) = some u:=by
      intro j u hu
      rcases h4 with h4 | ⟨g,o,e,_,hc⟩
      · rw [h4] at hu; simp at hu
      · injection e with e
        rw [e,add_at];exact hc j u hu
    obtain ⟨v',w',ha,hb,hc,_⟩:=run_append_own (P:=Tryz.prog) w base 50 ty 9 i0 (.string ⟨#[]⟩) 1 16 Tryz.underlying50 hi hz0 hz1 hz2 rfl (by decide) v n (sts xs) hown ad m c (sts ys) (by rw [sts_len,h1,Nat.mul_one]) hsrc (sts_one ys) (by unfold maxLen; omega) (by omega) hbase;exact ⟨v',w',ha,by have e:=sts_app xs ys; unfold SOwns; rw [e]; exact hb,hc⟩
  | none =>
    have hnil : ys = []:=by
      rcases h4 with h | ⟨_,_,h,_⟩
      · have:=congrArg List.length h
        rw [sts_len] at this;exact List.eq_nil_of_length_eq_zero this
      · cases h
    subst hnil;have hm : m = 0:=by rw [← h1]; rfl
    subst hm;refine ⟨v,w,?_,by simpa using hown,World.grownBy.refl w _⟩
    rcases hown.2 with ⟨rfl,rfl⟩ | ⟨g,cap,cur,rfl,_,_,hnc,_⟩
    · simp [Builtin.append_,run_underlying Tryz.underlying50,sizeOf,typeInfo,hi,Builtin.lenOf,Builtin.firstCells]
    · simp [Builtin.append_,run_underlying Tryz.underlying50,sizeOf,typeInfo,hi,Builtin.lenOf,Builtin.firstCells,hnc,storeCells]
theorem sapp_below {w0 w w' : World} {base n : Nat} {v : Value} {xs : List (List UInt8)} (hown : SOwns w base v n xs) (hb : Below w0.heap.size w0 w) (hg : w.grownBy w' v.ownBlock) (hB : w0.heap.size ≤ base) : Below w0.heap.size w0 w' :=
  hb.grown hg hb.size (fun k hk => Nat.le_trans hB (sown_from hown k hk))
theorem wp_sapp {o : Oper} {a : Act} {K : Act → World → Prop} {Q : Exit → Act → World → Prop} {w : World} (s x : Operand)
    (ho : o.op = .call { callee:=.builtin .append,args:=#[s,x],argTypes:=#[50,50] })
    (base : Nat) (v : Value) (n : Nat) (xs : List (List UInt8)) (hs : a.eval s = v) (hown : SOwns w base v n xs)
    (A : Option Addr) (m c : Nat) (ys : List (List UInt8)) (hx : a.eval x = .slice A m c) (hr : Sts w (.slice A m c) ys) (h63 : n + m ≤ 1000000) (hbase : base ≤ w.heap.size)
    (w0 : World) (hb : Below w0.heap.size w0 w) (hB : w0.heap.size ≤ base)
    (h : ∀ v' w',SOwns w' base v' (n + m) (xs ++ ys) → Below w0.heap.size w0 w' → w.grownBy w' v.ownBlock → K (a.put o.dst v') w') : o.wp Tryz.prog a w K Q:=by
  obtain ⟨v',w',hr,h2,h3⟩:=run_sapp o.type hown hr h63 hbase;unfold Oper.wp execOp;simp only [ho,resolve,invoke,builtin,Sem.run_bind,Sem.run_pure,Result.andThen_ok,List.map_toArray,List.map_cons,List.map_nil,hs,hx,hr];exact h v' w' h2 (sapp_below hown hb h3 hB) h3
theorem wpList_sapp {ops : Array Oper} {rest : List Oper} {o : Oper} {a : Act} {Q : Exit → Act → World → Prop} {w : World} (hgd : o.guard = none) (s x : Operand)
    (ho : o.op = .call { callee:=.builtin .append,args:=#[s,x],argTypes:=#[50,50] })
    (base : Nat) (v : Value) (n : Nat) (xs : List (List UInt8)) (hs : a.eval s = v) (hown : SOwns w base v n xs)
    (A : Option Addr) (m c : Nat) (ys : List (List UInt8)) (hx : a.eval x = .slice A m c) (hr : Sts w (.slice A m c) ys) (h63 : n + m ≤ 1000000) (hbase : base ≤ w.heap.size)
    (w0 : World) (hb : Below w0.heap.size w0 w) (hB : w0.heap.size ≤ base)
    (h : ∀ v' w',SOwns w' base v' (n + m) (xs ++ ys) → Below w0.heap.size w0 w' → w.grownBy w' v.ownBlock → wpList Tryz.prog ops Q rest (a.put o.dst v') w') : wpList Tryz.prog ops Q (o :: rest) a w :=
  wpList_plain hgd fun _ hK => wp_sapp s x ho base v n xs hs hown A m c ys hx hr h63 hbase w0 hb hB fun v' w' h2 h3 h4 => hK _ _ (h v' w' h2 h3 h4)
end Go.Proofs.YtlgnijhemfkflaaGreatDoor

namespace Go.Proofs.YtlgnijhemfkflaaGreatDoor
open Go.RowKit


theorem isbase_any (b : Int) (w : World) : Calls Tryz.prog 237 #[.int .i64 b] w fun e w' => e = .returned (.bool (baseB b)) ∧ w = w':=by
  by_cases k1 : 2 ≤ b
  · by_cases k2 : b ≤ 36
    · have H : Hid (baseB b = true):=(baseB_iff b).2 ⟨k1,k2⟩
      go_enter Tryz.func237,Tryz.ntmps237;go_wp2;go_ret;exact ⟨ret_bool H.out.symm,rfl⟩
    · have k2' : decide (b ≤ 36) = false:=by simp; omega
      have H : Hid (baseB b = false):=(baseB_no b).2 (by omega);clear k2;go_enter Tryz.func237,Tryz.ntmps237;go_wp2;go_ret;exact ⟨ret_bool H.out.symm,rfl⟩
  · have k1' : decide (2 ≤ b) = false:=by simp; omega
    have H : Hid (baseB b = false):=(baseB_no b).2 (by omega);clear k1;go_enter Tryz.func237,Tryz.ntmps237;go_wp2;go_ret;exact ⟨ret_bool H.out.symm,rfl⟩
theorem nworth_any (c : Nat) (b : Int) (w : World) (hc : c ≤ 2147483647) :
    Calls Tryz.prog 307 #[.int .i32 (c : Int),.int .i64 b] w fun e w' => e = .returned (.tuple #[.int .i64 (worthF c b),.bool (isW c b)]) ∧ w = w':=by
  have hc' : (c : Int) ≤ 2147483647:=by omega
  rcases (by omega : c < 48 ∨ (48 ≤ c ∧ c ≤ 57) ∨ (57 < c ∧ c < 65) ∨ (65 ≤ c ∧ c ≤ 90) ∨ (90 < c ∧ c < 97) ∨ (97 ≤ c ∧ c ≤ 122) ∨ 122 < c) with h | h | h | h | h | h | h
  · skip
    have n48 : decide ((48 : Int) ≤ (c : Int)) = false:=by simp; omega
    have n65 : decide ((65 : Int) ≤ (c : Int)) = false:=by simp; omega
    have n97 : decide ((97 : Int) ≤ (c : Int)) = false:=by simp; omega
    have hv : Hid (((wN c : Nat) : Int) = 99):=by show _ = _; unfold wN; rw [if_neg (by omega),if_neg (by omega),if_neg (by omega)]; omega
    cases hb : baseB b with
    | false =>
      have hno:=(baseB_no b).1 hb;have H2 : Hid (isW c b = false):=(isW_no _ _).2 (by have:=hv.out; omega);have H1 : Hid (worthF c b = 0):=by show _ = _; unfold worthF; rw [H2.out]; rfl
      clear hno;go_enter Tryz.func307,Tryz.ntmps307;(go_wp2_with fail);refine (isbase_any b _).mono ?_;rw [hb];rintro e w1 ⟨rfl,rfl⟩;go_wp2;go_ret2;exact ⟨ret_ib H1.out.symm H2.out.symm,rfl⟩
    | true =>
      have hyes:=(baseB_iff b).1 hb
      by_cases k3 : b ≤ 36
      · skip
        have H2 : Hid (isW c b = false):=(isW_no _ _).2 (by have:=hv.out; omega);have H1 : Hid (worthF c b = 0):=by show _ = _; unfold worthF; rw [H2.out]; rfl
        clear hyes;go_enter Tryz.func307,Tryz.ntmps307;(go_wp2_with fail);refine (isbase_any b _).mono ?_;rw [hb];rintro e w1 ⟨rfl,rfl⟩;go_wp2;go_ret2;exact ⟨ret_ib H1.out.symm H2.out.symm,rfl⟩
      · exact absurd hyes.2 (by omega)
  · skip
    have g48 : (48 : Int) ≤ (c : Int):=by omega
    have l57 : (c : Int) ≤ 57:=by omega
    have n65 : decide ((65 : Int) ≤ (c : Int)) = false:=by simp; omega
    have n97 : decide ((97 : Int) ≤ (c : Int)) = false:=by simp; omega
    have hv : Hid (((wN c : Nat) : Int) = (c : Int) - 48):=by show _ = _; unfold wN; rw [if_pos h]; omega
    cases hb : baseB b with
    | false =>
      have hno:=(baseB_no b).1 hb;have H2 : Hid (isW c b = false):=(isW_no _ _).2 (by have:=hv.out; omega);have H1 : Hid (worthF c b = 0):=by show _ = _; unfold worthF; rw [H2.out]; rfl
      clear hno;go_enter Tryz.func307,Tryz.ntmps307;(go_wp2_with fail);refine (isbase_any b _).mono ?_;rw [hb];rintro e w1 ⟨rfl,rfl⟩;go_wp2;go_ret2;exact ⟨ret_ib H1.out.symm H2.out.symm,rfl⟩
    | true =>
      have hyes:=(baseB_iff b).1 hb
      by_cases k3 : b ≤ (c : Int) - 48
      · skip
        have H2 : Hid (isW c b = false):=(isW_no _ _).2 (by have:=hv.out; omega);have H1 : Hid (worthF c b = 0):=by show _ = _; unfold worthF; rw [H2.out]; rfl
        clear hyes;go_enter Tryz.func307,Tryz.ntmps307;(go_wp2_with fail);refine (isbase_any b _).mono ?_;rw [hb];rintro e w1 ⟨rfl,rfl⟩;go_wp2;go_ret2;exact ⟨ret_ib H1.out.symm H2.out.symm,rfl⟩
      · have k3' : decide (b ≤ (c : Int) - 48) = false:=by simp; omega
        have H2 : Hid (isW c b = true):=(isW_iff _ _).2 (by have:=hv.out; omega);have H1 : Hid (worthF c b = (c : Int) - 48):=by show _ = _; unfold worthF; rw [H2.out]; exact hv.out
        clear hyes k3;go_enter Tryz.func307,Tryz.ntmps307;(go_wp2_with fail);refine (isbase_any b _).mono ?_;rw [hb];rintro e w1 ⟨rfl,rfl⟩;go_wp2;go_ret2;exact ⟨ret_ib H1.out.symm H2.out.symm,rfl⟩
  · skip
    have g48 : (48 : Int) ≤ (c : Int):=by omega
    have m57 : decide ((c : Int) ≤ 57) = false:=by simp; omega
    have n65 : decide ((65 : Int) ≤ (c : Int)) = false:=by simp; omega
    have n97 : decide ((97 : Int) ≤ (c : Int)) = false:=by simp; omega
    have hv : Hid (((wN c : Nat) : Int) = 99):=by show _ = _; unfold wN; rw [if_neg (by omega),if_neg (by omega),if_neg (by omega)]; omega
    cases hb : baseB b with
    | false =>
      have hno:=(baseB_no b).1 hb;have H2 : Hid (isW c b = false):=(isW_no _ _).2 (by have:=hv.out; omega);have H1 : Hid (worthF c b = 0):=by show _ = _; unfold worthF; rw [H2.out]; rfl
      clear hno;go_enter Tryz.func307,Tryz.ntmps307;(go_wp2_with fail);refine (isbase_any b _).mono ?_;rw [hb];rintro e w1 ⟨rfl,rfl⟩;go_wp2;go_ret2;exact ⟨ret_ib H1.out.symm H2.out.symm,rfl⟩
    | true =>
      have hyes:=(baseB_iff b).1 hb
      by_cases k3 : b ≤ 36
      · skip
        have H2 : Hid (isW c b = false):=(isW_no _ _).2 (by have:=hv.out; omega);have H1 : Hid (worthF c b = 0):=by show _ = _; unfold worthF; rw [H2.out]; rfl
        clear hyes;go_enter Tryz.func307,Tryz.ntmps307;(go_wp2_with fail);refine (isbase_any b _).mono ?_;rw [hb];rintro e w1 ⟨rfl,rfl⟩;go_wp2;go_ret2;exact ⟨ret_ib H1.out.symm H2.out.symm,rfl⟩
      · exact absurd hyes.2 (by omega)
  · skip
    have g48 : (48 : Int) ≤ (c : Int):=by omega
    have m57 : decide ((c : Int) ≤ 57) = false:=by simp; omega
    have g65 : (65 : Int) ≤ (c : Int):=by omega
    have l90 : (c : Int) ≤ 90:=by omega
    have n97 : decide ((97 : Int) ≤ (c : Int)) = false:=by simp; omega
    have hv : Hid (((wN c : Nat) : Int) = (c : Int) - 65 + 10):=by show _ = _; unfold wN; rw [if_neg (by omega),if_pos h]; omega
    cases hb : baseB b with
    | false =>
      have hno:=(baseB_no b).1 hb;have H2 : Hid (isW c b = false):=(isW_no _ _).2 (by have:=hv.out; omega);have H1 : Hid (worthF c b = 0):=by show _ = _; unfold worthF; rw [H2.out]; rfl
      clear hno;go_enter Tryz.func307,Tryz.ntmps307;(go_wp2_with fail);refine (isbase_any b _).mono ?_;rw [hb];rintro e w1 ⟨rfl,rfl⟩;go_wp2;go_ret2;exact ⟨ret_ib H1.out.symm H2.out.symm,rfl⟩
    | true =>
      have hyes:=(baseB_iff b).1 hb
      by_cases k3 : b ≤ (c : Int) - 65 + 10
      · skip
        have H2 : Hid (isW c b = false):=(isW_no _ _).2 (by have:=hv.out; omega);have H1 : Hid (worthF c b = 0):=by show _ = _; unfold worthF; rw [H2.out]; rfl
        clear hyes;go_enter Tryz.func307,Tryz.ntmps307;(go_wp2_with fail);refine (isbase_any b _).mono ?_;rw [hb];rintro e w1 ⟨rfl,rfl⟩;go_wp2;go_ret2;exact ⟨ret_ib H1.out.symm H2.out.symm,rfl⟩
      · have k3' : decide (b ≤ (c : Int) - 65 + 10) = false:=by simp; omega
        have H2 : Hid (isW c b = true):=(isW_iff _ _).2 (by have:=hv.out; omega);have H1 : Hid (worthF c b = (c : Int) - 65 + 10):=by show _ = _; unfold worthF; rw [H2.out]; exact hv.out
        clear hyes k3;go_enter Tryz.func307,Tryz.ntmps307;(go_wp2_with fail);refine (isbase_any b _).mono ?_;rw [hb];rintro e w1 ⟨rfl,rfl⟩;go_wp2;go_ret2;exact ⟨ret_ib H1.out.symm H2.out.symm,rfl⟩
  · skip
    have g48 : (48 : Int) ≤ (c : Int):=by omega
    have m57 : decide ((c : Int) ≤ 57) = false:=by simp; omega
    have g65 : (65 : Int) ≤ (c : Int):=by omega
    have m90 : decide ((c : Int) ≤ 90) = false:=by simp; omega
    have n97 : decide ((97 : Int) ≤ (c : Int)) = false:=by simp; omega
    have hv : Hid (((wN c : Nat) : Int) = 99):=by show _ = _; unfold wN; rw [if_neg (by omega),if_neg (by omega),if_neg (by omega)]; omega
    cases hb : baseB b with
    | false =>
      have hno:=(baseB_no b).1 hb;have H2 : Hid (isW c b = false):=(isW_no _ _).2 (by have:=hv.out; omega);have H1 : Hid (worthF c b = 0):=by show _ = _; unfold worthF; rw [H2.out]; rfl
      clear hno;go_enter Tryz.func307,Tryz.ntmps307;(go_wp2_with fail);refine (isbase_any b _).mono ?_;rw [hb];rintro e w1 ⟨rfl,rfl⟩;go_wp2;go_ret2;exact ⟨ret_ib H1.out.symm H2.out.symm,rfl⟩
    | true =>
      have hyes:=(baseB_iff b).1 hb
      by_cases k3 : b ≤ 36
      · skip
        have H2 : Hid (isW c b = false):=(isW_no _ _).2 (by have:=hv.out; omega);have H1 : Hid (worthF c b = 0):=by show _ = _; unfold worthF; rw [H2.out]; rfl
        clear hyes;go_enter Tryz.func307,Tryz.ntmps307;(go_wp2_with fail);refine (isbase_any b _).mono ?_;rw [hb];rintro e w1 ⟨rfl,rfl⟩;go_wp2;go_ret2;exact ⟨ret_ib H1.out.symm H2.out.symm,rfl⟩
      · exact absurd hyes.2 (by omega)
  · skip
    have g48 : (48 : Int) ≤ (c : Int):=by omega
    have m57 : decide ((c : Int) ≤ 57) = false:=by simp; omega
    have g65 : (65 : Int) ≤ (c : Int):=by omega
    have m90 : decide ((c : Int) ≤ 90) = false:=by simp; omega
    have g97 : (97 : Int) ≤ (c : Int):=by omega
    have l122 : (c : Int) ≤ 122:=by omega
    have hv : Hid (((wN c : Nat) : Int) = (c : Int) - 97 + 10):=by show _ = _; unfold wN; rw [if_neg (by omega),if_neg (by omega),if_pos h]; omega
    cases hb : baseB b with
    | false =>
      have hno:=(baseB_no b).1 hb;have H2 : Hid (isW c b = false):=(isW_no _ _).2 (by have:=hv.out; omega);have H1 : Hid (worthF c b = 0):=by show _ = _; unfold worthF; rw [H2.out]; rfl
      clear hno;go_enter Tryz.func307,Tryz.ntmps307;(go_wp2_with fail);refine (isbase_any b _).mono ?_;rw [hb];rintro e w1 ⟨rfl,rfl⟩;go_wp2;go_ret2;exact ⟨ret_ib H1.out.symm H2.out.symm,rfl⟩
    | true =>
      have hyes:=(baseB_iff b).1 hb
      by_cases k3 : b ≤ (c : Int) - 97 + 10
      · skip
        have H2 : Hid (isW c b = false):=(isW_no _ _).2 (by have:=hv.out; omega);have H1 : Hid (worthF c b = 0):=by show _ = _; unfold worthF; rw [H2.out]; rfl
        clear hyes;go_enter Tryz.func307,Tryz.ntmps307;(go_wp2_with fail);refine (isbase_any b _).mono ?_;rw [hb];rintro e w1 ⟨rfl,rfl⟩;go_wp2;go_ret2;exact ⟨ret_ib H1.out.symm H2.out.symm,rfl⟩
      · have k3' : decide (b ≤ (c : Int) - 97 + 10) = false:=by simp; omega
        have H2 : Hid (isW c b = true):=(isW_iff _ _).2 (by have:=hv.out; omega);have H1 : Hid (worthF c b = (c : Int) - 97 + 10):=by show _ = _; unfold worthF; rw [H2.out]; exact hv.out
        clear hyes k3;go_enter Tryz.func307,Tryz.ntmps307;(go_wp2_with fail);refine (isbase_any b _).mono ?_;rw [hb];rintro e w1 ⟨rfl,rfl⟩;go_wp2;go_ret2;exact ⟨ret_ib H1.out.symm H2.out.symm,rfl⟩
  · skip
    have g48 : (48 : Int) ≤ (c : Int):=by omega
    have m57 : decide ((c : Int) ≤ 57) = false:=by simp; omega
    have g65 : (65 : Int) ≤ (c : Int):=by omega
    have m90 : decide ((c : Int) ≤ 90) = false:=by simp; omega
    have g97 : (97 : Int) ≤ (c : Int):=by omega
    have m122 : decide ((c : Int) ≤ 122) = false:=by simp; omega
    have hv : Hid (((wN c : Nat) : Int) = 99):=by show _ = _; unfold wN; rw [if_neg (by omega),if_neg (by omega),if_neg (by omega)]; omega
    cases hb : baseB b with
    | false =>
      have hno:=(baseB_no b).1 hb;have H2 : Hid (isW c b = false):=(isW_no _ _).2 (by have:=hv.out; omega);have H1 : Hid (worthF c b = 0):=by show _ = _; unfold worthF; rw [H2.out]; rfl
      clear hno;go_enter Tryz.func307,Tryz.ntmps307;(go_wp2_with fail);refine (isbase_any b _).mono ?_;rw [hb];rintro e w1 ⟨rfl,rfl⟩;go_wp2;go_ret2;exact ⟨ret_ib H1.out.symm H2.out.symm,rfl⟩
    | true =>
      have hyes:=(baseB_iff b).1 hb
      by_cases k3 : b ≤ 36
      · skip
        have H2 : Hid (isW c b = false):=(isW_no _ _).2 (by have:=hv.out; omega);have H1 : Hid (worthF c b = 0):=by show _ = _; unfold worthF; rw [H2.out]; rfl
        clear hyes;go_enter Tryz.func307,Tryz.ntmps307;(go_wp2_with fail);refine (isbase_any b _).mono ?_;rw [hb];rintro e w1 ⟨rfl,rfl⟩;go_wp2;go_ret2;exact ⟨ret_ib H1.out.symm H2.out.symm,rfl⟩
      · exact absurd hyes.2 (by omega)
theorem worth_any (c : Nat) (b : Int) (w : World) (hc : c < 256) :
    Calls Tryz.prog 300 #[.int .u8 (c : Int),.int .i64 b] w fun e w' => e = .returned (.tuple #[.int .i64 (worthF c b),.bool (isW c b)]) ∧ Below w.heap.size w w':=by
  have hc' : (c : Int) < 256:=by omega
  have HC:=zqh hc;clear hc;go_enter Tryz.func300,Tryz.ntmps300;(go_wp2_with fail);refine (nworth_any c b _ (by have:=HC.out; omega)).mono ?_;rintro e w1 ⟨rfl,rfl⟩;go_wp2;go_ret2;exact ⟨rfl,Below.refl _ _⟩
theorem digit_any (n : Int) (w : World) :
    Calls Tryz.prog 238 #[.int .i64 n] w fun e w' => e = .returned (.int .u8 (digF n)) ∧ Below w.heap.size w w':=by
  by_cases h0 : 0 ≤ n
  · by_cases h9 : n < 10
    · have H : Hid (digF n = 48 + n):=by
        show _ = _;unfold digF digN;rw [if_pos h0,if_pos (by omega)];omega
      go_enter Tryz.func238,Tryz.ntmps238;go_wp2;go_ret;exact ⟨ret_int H.out.symm,Below.refl _ _⟩
    · have h9' : decide (n < 10) = false:=by simp; omega
      have h10 : 10 ≤ n:=by omega
      by_cases h35 : n < 36
      · have H : Hid (digF n = 65 + n - 10):=by
          show _ = _;unfold digF digN;rw [if_pos h0,if_neg (by omega),if_pos (by omega)];omega
        clear h9;go_enter Tryz.func238,Tryz.ntmps238;go_wp2;go_ret;exact ⟨ret_int H.out.symm,Below.refl _ _⟩
      · have h35' : decide (n < 36) = false:=by simp; omega
        have H : Hid (digF n = 63):=by
          show _ = _;unfold digF digN;rw [if_pos h0,if_neg (by omega),if_neg (by omega)];rfl
        clear h9 h35;go_enter Tryz.func238,Tryz.ntmps238;go_wp2;go_ret;exact ⟨ret_int H.out.symm,Below.refl _ _⟩
  · have h0' : decide (0 ≤ n) = false:=by simp; omega
    have h10' : decide (10 ≤ n) = false:=by simp; omega
    have H : Hid (digF n = 63):=by
      show _ = _;unfold digF;rw [if_neg h0]
    clear h0;go_enter Tryz.func238,Tryz.ntmps238;go_wp2;go_ret;exact ⟨ret_int H.out.symm,Below.refl _ _⟩
end Go.Proofs.YtlgnijhemfkflaaGreatDoor

namespace Go.Proofs.YtlgnijhemfkflaaGreatDoor
open Go.RowKit


def WInv (R u rest : List UInt8) : Prop:=(u = [] → wordW R = wordW rest ∧ wordT R = wordT rest) ∧ (u ≠ [] → wordW R = u ++ rest.takeWhile solid ∧ wordT R = (rest.dropWhile solid).drop 1)
theorem WInv.first (R : List UInt8) : WInv R [] R:=⟨fun _ => ⟨rfl,rfl⟩,fun h => absurd rfl h⟩
theorem WInv.sign {R u rest : List UInt8} {c : UInt8} (h : WInv R u (c :: rest)) (hc : solid c = true) : WInv R (u ++ [c]) rest:=by
  refine ⟨fun e => by simp at e,fun _ => ?_⟩
  by_cases hu : u = []
  · obtain ⟨h1,h2⟩:=h.1 hu
    rw [h1,h2,hu];unfold wordW wordT;rw [if_pos hc,if_pos hc];exact ⟨rfl,rfl⟩
  · obtain ⟨h1,h2⟩:=h.2 hu
    rw [h1,h2,List.takeWhile_cons,List.dropWhile_cons,if_pos hc,if_pos hc];simp
theorem WInv.skip {R rest : List UInt8} {c : UInt8} (h : WInv R [] (c :: rest)) (hc : solid c = false) : WInv R [] rest:=by
  refine ⟨fun _ => ?_,fun e => absurd rfl e⟩;obtain ⟨h1,h2⟩:=h.1 rfl;rw [h1,h2]
  conv => lhs; lhs; unfold wordW
  conv => rhs; lhs; unfold wordT
  rw [if_neg (by simp [hc]),if_neg (by simp [hc])];exact ⟨rfl,rfl⟩
theorem WInv.last {R u : List UInt8} (h : WInv R u []) : wordW R = u ∧ wordT R = []:=by
  by_cases hu : u = []
  · obtain ⟨h1,h2⟩:=h.1 hu
    rw [h1,h2,hu];exact ⟨rfl,rfl⟩
  · obtain ⟨h1,h2⟩:=h.2 hu
    rw [h1,h2];simp
theorem str_toList (l : List UInt8) : (strB l).toList = l:=by
  rw [ByteArray.toList_eq]; rfl
def UInv (R : List UInt8) (c : UInt8) (m : Nat) : Prop:=uptoW R c = R.take m ++ uptoW (R.drop m) c ∧ (c ∈ R ↔ c ∈ R.drop m)
theorem UInv.first (R : List UInt8) (c : UInt8) : UInv R c 0:=⟨by simp,by simp⟩
theorem UInv.on {R : List UInt8} {c x : UInt8} {m : Nat} (h : UInv R c m) (hx : R[m]? = some x) (hne : x ≠ c) : UInv R c (m + 1):=by
  have hm:=(List.getElem?_eq_some_iff.1 hx).1;have e : R.drop m = x :: R.drop (m + 1):=by rw [List.drop_eq_getElem_cons hm,(List.getElem?_eq_some_iff.1 hx).2]
  obtain ⟨h1,h2⟩:=h;rw [e] at h1 h2;refine ⟨?_,?_⟩
  · rw [h1,List.take_add_one,hx]
    unfold uptoW;rw [List.takeWhile_cons,if_pos (by unfold notC; simpa using hne)];simp
  · rw [h2]
    simp;intro e;exact absurd e.symm hne
theorem UInv.no {R : List UInt8} {c : UInt8} {m : Nat} (h : UInv R c m) (hm : R.length ≤ m) : uptoW R c = R ∧ ¬ c ∈ R:=by
  obtain ⟨h1,h2⟩:=h;rw [List.drop_eq_nil_of_le hm] at h1 h2;refine ⟨?_,fun hc => by simpa using h2.1 hc⟩;rw [h1,List.take_of_length_le hm];simp [uptoW]
def Rem (l R : List UInt8) : Prop:=∃ k,k ≤ l.length ∧ R = l.drop k
theorem Rem.all (l : List UInt8) : Rem l l:=⟨0,Nat.zero_le _,rfl⟩
theorem Rem.le {l R : List UInt8} (h : Rem l R) : R.length ≤ l.length:=by
  obtain ⟨k,hk,rfl⟩:=h;rw [List.length_drop];omega
theorem Rem.drop {l R : List UInt8} (h : Rem l R) : l.drop (l.length - R.length) = R:=by
  obtain ⟨k,hk,rfl⟩:=h;rw [List.length_drop]
  congr 1
  omega
end Go.Proofs.YtlgnijhemfkflaaGreatDoor

namespace Go.Proofs.YtlgnijhemfkflaaGreatDoor
open Go.RowKit


def namedC (nm : List UInt8) : Int:=if nm = [] then -16 else if 31 < nm.length then -19 else if nm.all solid = true then 0 else -32
def flagB (f : Int) : Bool:=decide (0 ≤ f ∧ f ≤ 7)
theorem flagB_iff (f : Int) : flagB f = true ↔ (0 ≤ f ∧ f ≤ 7):=by unfold flagB; simp
theorem flagB_no (f : Int) : flagB f = false ↔ ¬ (0 ≤ f ∧ f ≤ 7):=by unfold flagB; rw [decide_eq_false_iff_not]
def wordB (q : Wr) : Bool:=decide (namedC q.nm = 0) && flagB q.fl
def dRight (l : List Wr) : Bool:=l.all wordB && decide (l.length ≤ 1024)
def dSame (a b : List Wr) : Bool:=decide (a = b)
def w0 : Wr:=⟨[],0,0⟩
end Go.Proofs.YtlgnijhemfkflaaGreatDoor
