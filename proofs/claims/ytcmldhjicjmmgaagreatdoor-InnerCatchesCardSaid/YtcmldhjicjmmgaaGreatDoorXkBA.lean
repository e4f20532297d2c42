/- Part 27. -/
import Derived.Test.YtcmldhjicjmmgaaGreatDoorXkAU
set_option linter.unusedVariables false
set_option linter.unusedSimpArgs false
set_option maxRecDepth 100000
set_option maxHeartbeats 4000000

namespace Go.Proofs.YtcmldhjicjmmgaaGreatDoor
open Go.RowKit


abbrev fr3 (d r i : Int) : Array Value:=#[.int .i64 d,.int .i64 r,.int .i64 i]
abbrev fr3V (d r i : Int) : Value:=.agg #[.int .i64 d,.int .i64 r,.int .i64 i]
def FBox (w : World) (b : Nat) (d r i : Int) : Prop:=w.heap[b]? = some (.cells #[.int .i64 d,.int .i64 r,.int .i64 i] 102)
theorem FBox.keep {w w' : World} {b : Nat} {d r i : Int} (h : FBox w b d r i) (x : Below w.heap.size w w') : FBox w' b d r i:=(x.block _ (Array.getElem?_eq_some_iff.1 h).1).trans h
theorem fbox_new (w : World) (d r i : Int) : FBox (w.alloc (.cells #[.int .i64 d,.int .i64 r,.int .i64 i] 102)) w.heap.size d r i:=heap_alloc_new w _
theorem fr3_info : (Tryz.prog.info? 102).map (·.size) = some 3:=by kernel_rfl
theorem fbox_row {w : World} {b : Nat} {d r i : Int} (h : FBox w b d r i) (d' r' i' : Int) : FBox (w.setRow b (fr3 d' r' i')) b d' r' i':=setRow_heap w b _ _ _ _ h
theorem fbox_far {w : World} {b g : Nat} {d r i : Int} (h : FBox w b d r i) (hne : b ≠ g) (cs : Array Value) : FBox (w.setRow g cs) b d r i:=by unfold FBox at h ⊢; rw [setRow_other w g b cs hne]; exact h
theorem step_fst {ops : Array Oper} {o : Oper} {a : Act} {K : Act → World → Prop} {Q : Exit → Act → World → Prop} {E : Prop} {w : World} (hgd : o.guard = none) (x y : Operand) (ho : o.op = .store 102 x y)
    (b : Nat) (d0 r0 i0 d r i : Int) (hx : a.eval x = .pointer (some ⟨b,0,none⟩)) (hy : a.eval y = fr3V d r i) (hb : FBox w b d0 r0 i0) (h : K (a.put o.dst undef) (w.setRow b (fr3 d r i))) :
    if Region.wanted o (yielded ops a.tmps) = true then Oper.wp Tryz.prog o a w K Q else E:=by
  have hw : Region.wanted o (yielded ops a.tmps) = true:=by simp [Region.wanted,hgd]
  rw [if_pos hw];exact wp_store_row 102 x y ho b (fr3 d r i) hx hy _ _ hb fr3_info rfl (by simp [Value.oneCell']) h
theorem wpList_fst {ops : Array Oper} {rest : List Oper} {o : Oper} {a : Act} {Q : Exit → Act → World → Prop} {w : World} (hw : Region.wanted o (yielded ops a.tmps) = true) (x y : Operand) (ho : o.op = .store 102 x y)
    (b : Nat) (d0 r0 i0 d r i : Int) (hx : a.eval x = .pointer (some ⟨b,0,none⟩)) (hy : a.eval y = fr3V d r i) (hb : FBox w b d0 r0 i0) (h : wpList Tryz.prog ops Q rest (a.put o.dst undef) (w.setRow b (fr3 d r i))) : wpList Tryz.prog ops Q (o :: rest) a w :=
  wpList_step fun K hK => by
    rw [if_pos hw];exact wp_store_row 102 x y ho b (fr3 d r i) hx hy _ _ hb fr3_info rfl (by simp [Value.oneCell']) (hK _ _ h)
theorem res_fvt {fn : Func} {p q t : Tmp} (h : fn.results = #[.cell p 102,.cell q 37,.tmp t]) (tmps : Array Value) (w : World) (b c : Nat) (d r i : Int) (k : VmK) (hp : tmps.getD p undef = .pointer (some ⟨b,0,none⟩)) (hq : tmps.getD q undef = .pointer (some ⟨c,0,none⟩)) (hb : FBox w b d r i) (hc : VBox w c k) :
    (results fn tmps).run Tryz.prog w = .ok (.tuple #[fr3V d r i,vmV k,tmps.getD t undef]) w:=by
  have hp' : tmps[p]?.getD undef = .pointer (some ⟨b,0,none⟩):=by simpa using hp
  have hq' : tmps[q]?.getD undef = .pointer (some ⟨c,0,none⟩):=by simpa using hq
  have hl : (loadVar 102 ⟨b,0,none⟩).run Tryz.prog w = .ok (fr3V d r i) w:=run_loadVar_row w b _ _ _ _ _ hb Tryz.underlying102 rfl fr3_info;simp [results,h,hp',hq',asAddr,vm_load hc,hl]
abbrev popW (w : World) (k : VmK) : World:=((w.alloc (.cells (vmC k) 37)).alloc (.cells #[.int .i64 0,.int .i64 0,.int .i64 0] 102)).alloc (.cells (vmC vm0) 37)
theorem pop_boxes (w : World) (k : VmK) : Below w.heap.size w (popW w k) ∧ VBox (popW w k) w.heap.size k ∧ FBox (popW w k) (w.heap.size + 1) 0 0 0 ∧ VBox (popW w k) (w.heap.size + 2) vm0:=by
  have b1:=al_one w (.cells (vmC k) 37);have b2:=al_one (w.alloc (.cells (vmC k) 37)) (.cells #[.int .i64 0,.int .i64 0,.int .i64 0] 102);have b3:=al_one ((w.alloc (.cells (vmC k) 37)).alloc (.cells #[.int .i64 0,.int .i64 0,.int .i64 0] 102)) (.cells (vmC vm0) 37);have x1 : VBox (w.alloc (.cells (vmC k) 37)) w.heap.size k:=heap_alloc_new w _;have x2:=fbox_new (w.alloc (.cells (vmC k) 37)) 0 0 0;have x3 : VBox (popW w k) ((w.alloc (.cells (vmC k) 37)).alloc (.cells #[.int .i64 0,.int .i64 0,.int .i64 0] 102)).heap.size vm0:=heap_alloc_new _ _;rw [show ((w.alloc (.cells (vmC k) 37)).alloc (.cells #[.int .i64 0,.int .i64 0,.int .i64 0] 102)).heap.size = w.heap.size + 2 from by simp] at x3;rw [show (w.alloc (.cells (vmC k) 37)).heap.size = w.heap.size + 1 from by simp] at x2;exact ⟨below_then (below_then b1 b2) b3,(x1.keep b2).keep b3,x2.keep b3,x3⟩


theorem lies_take {w : World} {A : Option Addr} {l : List Int} (m : Nat) (h : Lies w A (ints l)) : Lies w A (ints (l.take m)):=by
  rcases h with h | ⟨g,o,e,hg,hc⟩
  · have : l = []:=by simpa [ints] using h
    subst this;simp [ints,Lies]
  · refine .inr ⟨g,o,e,hg,fun j v hv => hc j v ?_⟩
    have hl : ints (l.take m) = (ints l).take m:=by simp [ints]
    rw [hl,List.getElem?_take] at hv
    split at hv
    · exact hv
    · cases hv
theorem asdeep_any (A : Option Addr) (n c m : Nat) (l : List Int) (w : World) (hn : n ≤ 65536) (hm : m ≤ n) (HR : Hid (Row w A n c l)) :
    Calls Tryz.prog 43 #[.slice A n c,.int .i64 (m : Int)] w fun e w' => e = .returned (.slice (some ⟨w.heap.size,0,none⟩) m m) ∧ Row w' (some ⟨w.heap.size,0,none⟩) m m (l.take m) ∧ Below w.heap.size w w':=by
  obtain ⟨i0,hi,hz0,hz1,hz2⟩:=info_parts info_int;obtain ⟨Z,hZ⟩ : ∃ Z,Z = (madeCells (Value.int .i64 0).cells m).toList:=⟨_,rfl⟩;obtain ⟨X,hX⟩ : ∃ X,X = ints (l.take m):=⟨_,rfl⟩;have hmk : (Instr.makeSlice 22 (.int .i64 (m : Int)) (.int .i64 (m : Int))).run Tryz.prog w = .ok (.slice (some ⟨w.heap.size,0,none⟩) m m) (w.alloc (.cells Z.toArray 3)):=by
    have:=run_make (P:=Tryz.prog) w 22 3 i0 (.int .i64 0) Tryz.underlying22 hi hz0 .i64 .i64 m m (by omega) (Int.le_refl _) (by rw [hz2]; omega) (by omega);rw [hz1] at this;simpa [hZ] using this
  have hmx : max (m : Int) 0 = (m : Int):=by omega
  have HZ : Hid (Z.length = m):=by rw [hZ]; show _ = m; simp [size_madeCells]
  have HX : Hid (X.length = m):=by rw [hX]; have:=HR.out.1; show _ = m; rw [ints_len,List.length_take]; omega
  have HE:=zqh hX;have HL0:=zqh (lies_take m HR.out.2.2.2);have HM:=zqh hm;have HN : Hid ((l.take m).length = m):=by show _ = m; rw [List.length_take]; have:=HR.out.1; omega
  clear hX hZ hi hz0 hz1 hz2 hm;go_enter Tryz.func43,Tryz.ntmps43;(go_wp2_with (with_reducible refine wpList_copy_splice rfl (.tmp 9) (.tmp 10) 22 22 rfl 3 Tryz.underlying22 ?c0 (some ⟨w.heap.size,0,none⟩) A m m n c rfl rfl w.heap.size 0 Z 3 ?c1 X ?c2 (fun hx => ⟨rfl,hpos_of (HE.out ▸ HL0.out) ((Below.refl _ _).alloc (Nat.le_refl _) _) hx⟩) ?c3 ?c4 w.heap.size w ?c5 ?c6 ?_))
  case c0 => kernel_rfl
  case c1 => exact heap_alloc_new _ _
  case c2 => rw [HX.out]; have:=HM.out; exact (Nat.min_eq_right this).symm
  case c3 => rw [HX.out,HZ.out]; omega
  case c4 => rw [HE.out]; exact ints_one _
  case c5 => exact (Below.refl _ _).alloc (Nat.le_refl _) _
  case c6 => omega
  intro w2 hg hb2;go_wp2;go_ret;have h2:=hg.out;have e : splice Z 0 X = X:=by
    have z:=HZ.out;have x:=HX.out;simp [splice,z,x]
  rw [e,HE.out] at h2;exact ⟨rfl,⟨HN.out,Nat.le_refl _,by have:=HM.out; unfold maxLen; omega,lies_block h2⟩,hb2⟩
theorem exec_fl {o : Oper} {a : Act} (x : Operand) (ho : o.op = .load 102 x) (b : Nat) (d r i : Int) (hx : a.eval x = .pointer (some ⟨b,0,none⟩)) {u : World} (hb : FBox u b d r i) : (execOp a.eval o).run Tryz.prog u = .ok (.value (fr3V d r i)) u:=by
  unfold execOp;simp only [ho,hx,Instr.loadAt,Instr.sureAddr,Sem.run_bind,Sem.run_pure,Result.andThen_ok,run_loadVar_row u b _ _ _ _ _ hb Tryz.underlying102 rfl fr3_info]
theorem fbox_cell {w : World} {b g i : Nat} {v : Value} {d r x : Int} (h : FBox w b d r x) (hne : b ≠ g) : FBox (w.setCell ⟨g,i,none⟩ v) b d r x:=by
  unfold FBox;rw [Below.heap_setCell _ _ _ _ hne];exact h
theorem FBox.use {w : World} {b : Nat} {d r i : Int} (h : FBox w b d r i) : w.cell? ⟨b,0,none⟩ = some (.int .i64 d) ∧ w.cell? ⟨b,1,none⟩ = some (.int .i64 r) ∧ w.cell? ⟨b,2,none⟩ = some (.int .i64 i):=⟨(cell_of_row w b 0 _ _ _ h).trans rfl,(cell_of_row w b 1 _ _ _ h).trans rfl,(cell_of_row w b 2 _ _ _ h).trans rfl⟩
theorem fm_one {w : World} {A : Option Addr} {n c : Nat} {q : Fm} (h : Fms w (.slice A n c) [q]) : ∃ g o,A = some ⟨g,o,none⟩ ∧ w.cell? ⟨g,o,none⟩ = some (.int .i64 q.d) ∧ w.cell? ⟨g,o + 1,none⟩ = some (.int .i64 q.r) ∧ w.cell? ⟨g,o + 2,none⟩ = some (.int .i64 q.ip):=by
  obtain ⟨g,o,e,_,hc⟩:=Rws.cell (s:=3) (fun _ => rfl) (by decide) h (k:=0) (by simp);exact ⟨g,o,e,hc 0 _ (by decide) rfl,hc 1 _ (by decide) rfl,hc 2 _ (by decide) rfl⟩
theorem popf_one (k : VmK) (d r i : Int) (w : World) (hf : Fms w (.slice k.fA k.fn k.fc) [⟨d,r,i⟩]) : Calls Tryz.prog 42 #[vmV k] w fun e w' => e = .returned (.tuple #[fr3V d r i,vmV { k with fn:=0,fc:=0 },.int .i64 0]) ∧ Below w.heap.size w w':=by
  have HF : Hid (k.fn = 1):=hf.len.symm;obtain ⟨g,o,eA,c0,c1,c2⟩:=fm_one hf;have HA:=zqh eA;have HC : Hid (w.cell? ⟨g,o,none⟩ = some (.int .i64 d) ∧ w.cell? ⟨g,o + 1,none⟩ = some (.int .i64 r) ∧ w.cell? ⟨g,o + 2,none⟩ = some (.int .i64 i)):=⟨c0,c1,c2⟩;have HG : Hid (k.fn ≤ k.fc):=by obtain ⟨A',c',e,h1,_⟩:=hf; injection e with e1 e2 e3; show _ ≤ _; rw [e2,e3]; exact h1
  clear hf eA c0 c1 c2;go_enter Tryz.func42,Tryz.ntmps42;go_upto_region 1 with fail
  generalize hw1 : World.alloc (World.alloc (World.alloc _ _) _) _ = w1;obtain ⟨kb,kx,ky,kz⟩:=pop_boxes w k;have B1 : Hid (Below w.heap.size w w1):=by show Below _ _ _; rw [← hw1]; exact kb
  have X1 : Hid (VBox w1 w.heap.size k):=by show VBox _ _ _; rw [← hw1]; exact kx
  have Y1 : Hid (FBox w1 (w.heap.size + 1) 0 0 0):=by show FBox _ _ _ _ _; rw [← hw1]; exact ky
  have Z1 : Hid (VBox w1 (w.heap.size + 2) vm0):=by show VBox _ _ _; rw [← hw1]; exact kz
  clear hw1 kb kx ky kz;have p10:=X1.out.use.2.2.2.2.2.2.2.2.2.2.1;rw [HF.out,HA.out] at p10;have c0:=(B1.out.cell (p:=⟨g,o,none⟩) (World.block_lt_of_cell? _ _ HC.out.1)).trans HC.out.1;have c1:=(B1.out.cell (p:=⟨g,o + 1,none⟩) (World.block_lt_of_cell? _ _ HC.out.2.1)).trans HC.out.2.1;have c2:=(B1.out.cell (p:=⟨g,o + 2,none⟩) (World.block_lt_of_cell? _ _ HC.out.2.2)).trans HC.out.2.2;go_upto_region 5 with (refine wpList_fst (by rfl) _ _ rfl w1.heap.size 0 0 0 d r i rfl rfl (fbox_new _ _ _ _) ?_)
  generalize hw2 : World.setRow _ _ _ = w2;have bb : Below w1.heap.size w1 w2:=by rw [← hw2]; exact below_setRow (al_one _ _) (Nat.le_refl _) _
  have T2 : Hid (FBox w2 w1.heap.size d r i):=by show FBox _ _ _ _ _; rw [← hw2]; exact fbox_row (fbox_new _ _ _ _) _ _ _
  have X2:=zqh (X1.out.keep bb);have Y2:=zqh (Y1.out.keep bb);have Z2:=zqh (Z1.out.keep bb);have B2:=zqh (below_then B1.out bb);have L1:=zqh Z1.out.lt;clear hw2 bb X1 Y1 Z1 B1 p10 c0 c1 c2;have p10:=X2.out.use.2.2.2.2.2.2.2.2.2.2.1;rw [HF.out,HA.out] at p10;have f10:=X2.out.free.2.2.2.2.2.2.2.2.2.2.1;have gc : (1 : Nat) ≤ k.fc:=by have:=HG.out; have e:=HF.out; omega
  go_upto_region 6 with fail
  generalize hw3 : World.setCell _ _ _ = w3;have X3 : Hid (VBox w3 w.heap.size { k with fn:=0,fc:=0 }):=by
    show VBox _ _ _;rw [← hw3,← HA.out];exact X2.out.set_f k.fA 0 0
  have T3 : Hid (FBox w3 w1.heap.size d r i):=by show FBox _ _ _ _ _; rw [← hw3]; exact fbox_cell T2.out (by have:=L1.out; omega)
  have Y3 : Hid (FBox w3 (w.heap.size + 1) 0 0 0):=by show FBox _ _ _ _ _; rw [← hw3]; exact fbox_cell Y2.out (by omega)
  have Z3 : Hid (VBox w3 (w.heap.size + 2) vm0):=by show VBox _ _ _; rw [← hw3]; exact vset_far Z2.out (by omega)
  have B3 : Hid (Below w.heap.size w w3):=by show Below _ _ _; rw [← hw3]; exact B2.out.setCell (p:=⟨w.heap.size,10,none⟩) (Nat.le_refl _) _
  clear hw3 X2 T2 Y2 Z2 B2 p10 f10 gc;refine wp_region_held_drew (S:=fun a => VBox a w.heap.size { k with fn:=0,fc:=0 } ∧ FBox a w1.heap.size d r i ∧ (∃ d r i,FBox a (w.heap.size + 1) d r i) ∧ (∃ j0,VBox a (w.heap.size + 2) j0) ∧ Below w.heap.size w a) (by kernel_rfl) ?_ (fun hHeld => ?_)
  · exact ⟨X3.out,T3.out,⟨_,_,_,Y3.out⟩,⟨_,Z3.out⟩,B3.out.drew⟩
  clear X3 Y3 Z3 B3 T3;refine zqt (i:=0) (v:=fr3V d r i) ?y0 ?r0
  case y0 => exact fun u hSu => exec_fl _ rfl w1.heap.size d r i rfl hSu.2.1
  (try simp only [zq,Act.put]);refine zqt (i:=1) (v:=vmV { k with fn:=0,fc:=0 }) ?y1 ?r1
  case y1 => exact fun u hSu => exec_vl _ rfl w.heap.size _ rfl hSu.1
  (try simp only [zq,Act.put]);refine zqr 2 fun K hK => ?_
  obtain ⟨d9,r9,i9,hy⟩:=hHeld.2.2.1;refine step_fst rfl _ _ rfl (w.heap.size + 1) d9 r9 i9 d r i rfl rfl hy ?_;have hy2:=zqh (fbox_row hy d r i);obtain ⟨j9,hz⟩:=hHeld.2.2.2.1;refine hK.out _ _ ⟨vrow_fr hHeld.1 (by omega) _,fbox_far hHeld.2.1 (by have:=L1.out; omega) _,⟨_,_,_,hy2.out⟩,⟨j9,vrow_fr hz (by omega) _⟩,below_setRow hHeld.2.2.2.2 (by omega) _⟩ (fun hHeld2 => ?_);clear hK K hHeld hz hy;(try simp only [zq,Act.put]);refine zqr 3 fun K hK => ?_
  obtain ⟨j8,hz⟩:=hHeld2.2.2.2.1;refine step_vst rfl _ _ rfl (w.heap.size + 2) j8 { k with fn:=0,fc:=0 } rfl rfl hz ?_;have hz2:=zqh (vrow hz { k with fn:=0,fc:=0 });have hy3:=zqh (fbox_far hy2.out (show w.heap.size + 1 ≠ w.heap.size + 2 by omega) (vmC { k with fn:=0,fc:=0 }));have bz:=zqh (below_setRow hHeld2.2.2.2.2 (show w.heap.size ≤ w.heap.size + 2 by omega) (vmC { k with fn:=0,fc:=0 }));refine hK.out _ _ ⟨vrow_fr hHeld2.1 (by omega) _,fbox_far hHeld2.2.1 (by have:=L1.out; omega) _,⟨_,_,_,hy3.out⟩,⟨_,hz2.out⟩,bz.out⟩ (fun hHeld3 => ?_);clear hK K hHeld2 hz hy2;(try simp only [zq,Act.put]);refine zqa 4 ?_;refine wpAnyH_done (by kernel_rfl) ?_ _;(go_wp2_with fail);exact bodyPost_ret (res_fvt rfl _ _ _ _ d r i { k with fn:=0,fc:=0 } rfl rfl hy3.out hz2.out) rfl ⟨rfl,bz.out⟩
theorem two_fw (w : World) (d r i : Int) (k : VmK) : VBox (((w.alloc (.cells #[.int .i64 0,.int .i64 0,.int .i64 0] 102)).alloc (.cells (vmC vm0) 37)).setRow w.heap.size (fr3 d r i)) (w.heap.size + 1) vm0 ∧ FBox ((((w.alloc (.cells #[.int .i64 0,.int .i64 0,.int .i64 0] 102)).alloc (.cells (vmC vm0) 37)).setRow w.heap.size (fr3 d r i)).setRow (w.heap.size + 1) (vmC k)) w.heap.size d r i ∧ VBox ((((w.alloc (.cells #[.int .i64 0,.int .i64 0,.int .i64 0] 102)).alloc (.cells (vmC vm0) 37)).setRow w.heap.size (fr3 d r i)).setRow (w.heap.size + 1) (vmC k)) (w.heap.size + 1) k ∧ Below w.heap.size w ((((w.alloc (.cells #[.int .i64 0,.int .i64 0,.int .i64 0] 102)).alloc (.cells (vmC vm0) 37)).setRow w.heap.size (fr3 d r i)).setRow (w.heap.size + 1) (vmC k)):=by
  have x : VBox ((w.alloc (.cells #[.int .i64 0,.int .i64 0,.int .i64 0] 102)).alloc (.cells (vmC vm0) 37)) (w.heap.size + 1) vm0:=by
    have:=heap_alloc_new (w.alloc (.cells #[.int .i64 0,.int .i64 0,.int .i64 0] 102)) (.cells (vmC vm0) 37)
    rwa [show (w.alloc (.cells #[.int .i64 0,.int .i64 0,.int .i64 0] 102)).heap.size = w.heap.size + 1 from by simp] at this
  have y:=vrow_fr (b':=w.heap.size) x (by omega) (fr3 d r i);exact ⟨y,fbox_far (fbox_row ((fbox_new w 0 0 0).keep (al_one _ _)) d r i) (by omega) _,vrow y k,below_setRow (below_setRow (al_two _ _ _) (Nat.le_refl _) _) (by omega) _⟩
def HandGo (S : RS) (c : Int) (S' : RS) (c' : Int) : Prop:=∀ r w,RIs w r S → Calls Tryz.prog 29 #[rnV r,.int .i64 c] w fun e w' => ∃ j,e = .returned (.tuple #[rnV j,.bool false,.int .i64 c']) ∧ RIs w' j S' ∧ Below w.heap.size w w'
theorem free_d8 {k : VmK} {b : Nat} (f : Free k b) (g n c : Nat) (hg : g ≠ b) : Free { k with dA:=some ⟨g,0,none⟩,dn:=n,dc:=c } b:=⟨f.p,.inr fun q hq e => by cases hq; exact hg e,f.r,f.f,f.w,f.e,f.h⟩
theorem free_r8 {k : VmK} {b : Nat} (f : Free k b) (g n c : Nat) (hg : g ≠ b) : Free { k with rA:=some ⟨g,0,none⟩,rn:=n,rc:=c } b:=⟨f.p,f.d,.inr fun q hq e => by cases hq; exact hg e,f.f,f.w,f.e,f.h⟩
theorem free_f8 {k : VmK} {b : Nat} (f : Free k b) : Free { k with fn:=0,fc:=0 } b:=⟨f.p,f.d,f.r,.inl rfl,f.w,f.e,f.h⟩
theorem isvm_f8 {w : World} {k : VmK} {L : VmL} (g : IsVm w k L) : IsVm w { k with fn:=0,fc:=0 } { L with f:=[] }:=⟨g.m,g.d,g.r,⟨k.fA,0,rfl,Nat.le_refl _,Nat.zero_le _,.inl rfl⟩,g.dict,g.o,g.q,g.e,g.h⟩
theorem handed_one (S : RS) (c : Int) (p q : Nat) (i : Int) (hf : S.L.f = [⟨p,q,i⟩]) (hcd : S.k.cd = 32) (hcr : S.k.cr = 32) (hp : p ≤ S.L.d.length) (hp2 : p ≤ 31) (hq : q ≤ S.L.r.length) (hq2 : q ≤ 32) (hd : S.L.d.length ≤ 60000) (hr : S.L.r.length ≤ 60000) :
    HandGo S c { S with L:={ S.L with d:=S.L.d.take p ++ [c],r:=S.L.r.take q,f:=[] },ip:=i,wv:=0,d:=false } 0:=by
  intro r w h;have H0:=zqh h;have ef:=h.vm.f;rw [hf] at ef;have HF:=zqh ef;have D1 : Hid (r.v.cd = 32):=h.sc.cd.trans hcd;have R1 : Hid (r.v.cr = 32):=h.sc.cr.trans hcr;have m1 : min (p : Int) 31 = (p : Int):=by omega
  have m2 : min (q : Int) 32 = (q : Int):=by omega
  have NP : Hid (r.v.dn ≤ 65536 ∧ p ≤ r.v.dn ∧ r.v.rn ≤ 65536 ∧ q ≤ r.v.rn):=by have:=h.vm.d.1; have:=h.vm.r.1; show _ ∧ _; omega
  have PQ : Hid (p ≤ 31 ∧ p ≤ S.L.d.length ∧ q ≤ S.L.r.length):=⟨hp2,hp,hq⟩;clear h ef hf hcd hcr hp hp2 hq hq2 hd hr;go_enter Tryz.func29,Tryz.ntmps29;go_upto_region 1 with fail
  generalize hw1 : World.alloc (World.alloc _ _) _ = w1;obtain ⟨kb,kx,ky⟩:=two_runs w r;have B1 : Hid (Below w.heap.size w w1):=by show Below _ _ _; rw [← hw1]; exact kb
  have X1 : Hid (RBox w1 w.heap.size r):=by show RBox _ _ _; rw [← hw1]; exact kx
  have Y1 : Hid (RBox w1 (w.heap.size + 1) rn0):=by show RBox _ _ _; rw [← hw1]; exact ky
  clear hw1 kb kx ky;have p24:=X1.out.c24;have p25:=X1.out.c25;have f24:=X1.out.fr 24;have f25:=X1.out.fr 25;go_upto_region 2 with fail
  generalize hw2 : World.setCell (World.setCell _ _ _) _ _ = w2;have X2 : Hid (RBox w2 w.heap.size { r with wv:=0,dob:=false }):=by show RBox _ _ _; rw [← hw2]; exact (X1.out.set_wv 0).set_dob false
  have Y2 : Hid (RBox w2 (w.heap.size + 1) rn0):=by show RBox _ _ _; rw [← hw2]; exact (Y1.out.away (by omega)).away (by omega)
  have B2 : Hid (Below w.heap.size w w2):=by show Below _ _ _; rw [← hw2]; exact (B1.out.setCell (p:=⟨w.heap.size,24,none⟩) (Nat.le_refl _) _).setCell (p:=⟨w.heap.size,25,none⟩) (Nat.le_refl _) _
  clear hw2 p24 p25 f24 f25 X1 Y1 B1;(go_wp2_with (first | (refine wpList_rbvload (by rfl) _ rfl w.heap.size _ rfl X2.out ?_)));refine (popf_one r.v (p : Int) (q : Int) i w2 (HF.out.keep B2.out)).mono ?_;rintro e w3 ⟨rfl,bb⟩;have X3:=zqh (X2.out.keep bb);have Y3:=zqh (Y2.out.keep bb);have B3:=zqh (below_then B2.out bb);have L3 : Hid (w.heap.size + 1 < w3.heap.size):=(Y2.out.keep bb).lt;clear X2 Y2 B2 bb HF;obtain ⟨k1,k2,k3,k4⟩:=two_fw w3 (p : Int) (q : Int) i { r.v with fn:=0,fc:=0 };have K1:=zqh k1;clear k1;go_upto_region 5 with (first | (refine wpList_fst (by rfl) _ _ rfl w3.heap.size 0 0 0 (p : Int) (q : Int) i rfl rfl ((fbox_new _ _ _ _).keep (al_one _ _)) ?_) | (refine wpList_vstore (by rfl) _ _ rfl (w3.heap.size + 1) vm0 { r.v with fn:=0,fc:=0 } rfl rfl K1.out ?_))
  generalize hw4 : World.setRow (World.setRow _ _ _) _ _ = w4;have bb : Below w3.heap.size w3 w4:=by rw [← hw4]; exact k4
  have T4 : Hid (FBox w4 w3.heap.size (p : Int) (q : Int) i):=by show FBox _ _ _ _ _; rw [← hw4]; exact k2
  have V4 : Hid (VBox w4 (w3.heap.size + 1) { r.v with fn:=0,fc:=0 }):=by show VBox _ _ _; rw [← hw4]; exact k3
  have X4:=zqh (X3.out.keep bb);have Y4:=zqh (Y3.out.keep bb);have B4:=zqh (below_then B3.out bb);have L4 : Hid (w3.heap.size + 1 < w4.heap.size):=V4.out.lt;have F4:=zqh (free_f8 (free_of (H0.out.vm.keep B3.out) (show w3.heap.size ≤ w3.heap.size + 1 by omega)));have M4:=zqh (isvm_f8 (H0.out.vm.keep B4.out));clear hw4 k2 k3 k4 bb X3 Y3 B3 K1;have z8:=V4.out.use.2.2.2.2.2.2.2.2.1;have z1 : w4.cell? ⟨w3.heap.size + 1,1,none⟩ = some (.int .i64 32):=by rw [← D1.out]; exact V4.out.use.2.1
  have t0:=T4.out.use.1;(go_wp2_with fail);refine (asdeep_any r.v.dA r.v.dn r.v.dc p S.L.d w4 NP.out.1 NP.out.2.1 (zqh M4.out.d)).mono ?_;rintro e w5 ⟨rfl,hrow,bb⟩;have X5:=zqh (X4.out.keep bb);have Y5:=zqh (Y4.out.keep bb);have T5:=zqh (T4.out.keep bb);have V5:=zqh (V4.out.keep bb);have M5:=zqh (M4.out.keep bb);have B5:=zqh (below_then B4.out bb);have S5:=zqh bb.size;have Q5:=zqh hrow;clear z8 z1 t0 X4 Y4 T4 V4 M4 B4 bb hrow;have z8:=V5.out.use.2.2.2.2.2.2.2.2.1;have y8:=V5.out.free.2.2.2.2.2.2.2.2.1;go_upto_region 6 with fail
  generalize hw6 : World.setCell _ _ _ = w6;have V6 : Hid (VBox w6 (w3.heap.size + 1) { r.v with fn:=0,fc:=0,dA:=some ⟨w4.heap.size,0,none⟩,dn:=p,dc:=p }):=by show VBox _ _ _; rw [← hw6]; exact V5.out.set_d _ _ _
  have T6 : Hid (FBox w6 w3.heap.size (p : Int) (q : Int) i):=by show FBox _ _ _ _ _; rw [← hw6]; exact fbox_cell T5.out (by omega)
  have X6 : Hid (RBox w6 w.heap.size { r with wv:=0,dob:=false }):=by show RBox _ _ _; rw [← hw6]; exact X5.out.away (by have:=L3.out; omega)
  have Y6 : Hid (RBox w6 (w.heap.size + 1) rn0):=by show RBox _ _ _; rw [← hw6]; exact Y5.out.away (by have:=L3.out; omega)
  have B6 : Hid (Below w.heap.size w w6):=by show Below _ _ _; rw [← hw6]; exact B5.out.setCell (p:=⟨w3.heap.size + 1,8,none⟩) (by have:=L3.out; show w.heap.size ≤ w3.heap.size + 1; omega) _
  have F6:=zqh (free_d8 F4.out w4.heap.size p p (by have:=L4.out; omega));have M6 : Hid (IsVm w6 { r.v with fn:=0,fc:=0,dA:=some ⟨w4.heap.size,0,none⟩,dn:=p,dc:=p } { S.L with f:=[],d:=S.L.d.take p }):=by
    show IsVm _ _ _;rw [← hw6];exact isvm_apart ⟨M5.out.m,Q5.out,M5.out.r,M5.out.f,M5.out.dict,M5.out.o,M5.out.q,M5.out.e,M5.out.h⟩ F6.out (ex_cell _ _ _ _) (vbox_nou8 V5.out)
  have Z6 : Hid (w4.heap.size ≤ w6.heap.size):=by show _ ≤ _; rw [← hw6]; have:=S5.out; simpa [World.setCell] using this
  clear hw6 z8 y8 X5 Y5 T5 V5 M5 B5 Q5 F4;have z9:=V6.out.use.2.2.2.2.2.2.2.2.2.1;have z2 : w6.cell? ⟨w3.heap.size + 1,2,none⟩ = some (.int .i64 32):=by rw [← R1.out]; exact V6.out.use.2.2.1
  have t1:=T6.out.use.2.1;(go_wp2_with fail);refine (asdeep_any r.v.rA r.v.rn r.v.rc q S.L.r w6 NP.out.2.2.1 NP.out.2.2.2 (zqh M6.out.r)).mono ?_;rintro e w7 ⟨rfl,hrow,bb⟩;have X7:=zqh (X6.out.keep bb);have Y7:=zqh (Y6.out.keep bb);have T7:=zqh (T6.out.keep bb);have V7:=zqh (V6.out.keep bb);have M7:=zqh (M6.out.keep bb);have B7:=zqh (below_then B6.out bb);have Q7:=zqh hrow;have L6 : Hid (w3.heap.size + 1 < w6.heap.size):=V6.out.lt;have S7:=zqh bb.size;clear z9 z2 t1 X6 Y6 T6 V6 M6 B6 bb hrow;have z9:=V7.out.use.2.2.2.2.2.2.2.2.2.1;have y9:=V7.out.free.2.2.2.2.2.2.2.2.2.1;go_upto_region 7 with fail
  generalize hw8 : World.setCell _ _ _ = w8;have V8 : Hid (VBox w8 (w3.heap.size + 1) { r.v with fn:=0,fc:=0,dA:=some ⟨w4.heap.size,0,none⟩,dn:=p,dc:=p,rA:=some ⟨w6.heap.size,0,none⟩,rn:=q,rc:=q }):=by show VBox _ _ _; rw [← hw8]; exact V7.out.set_r _ _ _
  have T8 : Hid (FBox w8 w3.heap.size (p : Int) (q : Int) i):=by show FBox _ _ _ _ _; rw [← hw8]; exact fbox_cell T7.out (by omega)
  have X8 : Hid (RBox w8 w.heap.size { r with wv:=0,dob:=false }):=by show RBox _ _ _; rw [← hw8]; exact X7.out.away (by have:=L3.out; omega)
  have Y8 : Hid (RBox w8 (w.heap.size + 1) rn0):=by show RBox _ _ _; rw [← hw8]; exact Y7.out.away (by have:=L3.out; omega)
  have B8 : Hid (Below w.heap.size w w8):=by show Below _ _ _; rw [← hw8]; exact B7.out.setCell (p:=⟨w3.heap.size + 1,9,none⟩) (by have:=L3.out; show w.heap.size ≤ w3.heap.size + 1; omega) _
  have F8:=zqh (free_r8 F6.out w6.heap.size q q (by have:=L6.out; omega));have M8 : Hid (IsVm w8 { r.v with fn:=0,fc:=0,dA:=some ⟨w4.heap.size,0,none⟩,dn:=p,dc:=p,rA:=some ⟨w6.heap.size,0,none⟩,rn:=q,rc:=q } { S.L with f:=[],d:=S.L.d.take p,r:=S.L.r.take q }):=by
    show IsVm _ _ _;rw [← hw8];exact isvm_apart ⟨M7.out.m,M7.out.d,Q7.out,M7.out.f,M7.out.dict,M7.out.o,M7.out.q,M7.out.e,M7.out.h⟩ F8.out (ex_cell _ _ _ _) (vbox_nou8 V7.out)
  have Z8 : Hid (w6.heap.size ≤ w8.heap.size):=by show _ ≤ _; rw [← hw8]; have:=S7.out; simpa [World.setCell] using this
  have N8 : Hid (∀ g,Free r.v g → g < w4.heap.size → g < w6.heap.size → Free { r.v with fn:=0,fc:=0,dA:=some ⟨w4.heap.size,0,none⟩,dn:=p,dc:=p,rA:=some ⟨w6.heap.size,0,none⟩,rn:=q,rc:=q } g):=fun g f h1 h2 => free_r8 (free_d8 (free_f8 f) _ _ _ (by omega)) _ _ _ (by omega)
  clear hw8 z9 y9 X7 Y7 T7 V7 M7 B7 Q7 F6;have HP:=zqh (vpush_loc { r.v with fn:=0,fc:=0,dA:=some ⟨w4.heap.size,0,none⟩,dn:=p,dc:=p,rA:=some ⟨w6.heap.size,0,none⟩,rn:=q,rc:=q } { S.L with f:=[],d:=S.L.d.take p,r:=S.L.r.take q } c w8 (by show p ≤ _; have:=PQ.out; omega) M8.out);have ht : ((S.L.d.take p).length : Int) < 32:=by rw [List.length_take]; have:=PQ.out; omega
  rw [pushC_ok ht D1.out,pushV,pushL_ok c ht D1.out] at HP;(go_wp2_with (first | (refine wpList_vload (by rfl) _ rfl (w3.heap.size + 1) _ rfl V8.out ?_)));refine HP.out.mono ?_;rintro e w9 ⟨j,rfl,hv,hs,hl,bb⟩;have X9:=zqh (X8.out.keep bb);have Y9:=zqh (Y8.out.keep bb);have T9:=zqh (T8.out.keep bb);have B9:=zqh (below_then B8.out bb);have M9:=zqh hv;have S9:=zqh hs;have N9 : Hid (∀ g,Free r.v g → g < w4.heap.size → g < w6.heap.size → Free j g):=fun g f h1 h2 => free_rloc hl (N8.out g f h1 h2) (by have:=Z8.out; omega)
  have W9 : Hid (w.heap.size + 1 < w4.heap.size ∧ w4.heap.size ≤ w6.heap.size):=by
    have:=L3.out;have:=L4.out;exact ⟨by omega,Z6.out⟩
  have FW:=zqh (N9.out w.heap.size (free_of H0.out.vm (Nat.le_refl _)) (by have:=W9.out; omega) (by have:=W9.out; omega));have FZ:=zqh (N9.out (w.heap.size + 1) (free_of H0.out.vm (by omega)) (by have:=W9.out; omega) (by have:=W9.out; omega));clear X8 Y8 T8 V8 M8 B8 F8 N8 bb hv hs hl HP ht;go_upto_region 8 with (refine wpList_rbvstore (by rfl) _ _ rfl w.heap.size _ j rfl rfl X9.out ?_)
  generalize hw10 : World.setRow _ _ _ = w10;have X10 : Hid (RBox w10 w.heap.size { r with v:=j,wv:=0,dob:=false }):=by show RBox _ _ _; rw [← hw10]; exact rrow X9.out _
  have Y10 : Hid (RBox w10 (w.heap.size + 1) rn0):=by show RBox _ _ _; rw [← hw10]; exact Y9.out.away_row (by omega) _
  have T10 : Hid (FBox w10 w3.heap.size (p : Int) (q : Int) i):=by show FBox _ _ _ _ _; rw [← hw10]; exact fbox_far T9.out (by have:=L3.out; omega) _
  have B10 : Hid (Below w.heap.size w w10):=by show Below _ _ _; rw [← hw10]; exact below_setRow B9.out (Nat.le_refl _) _
  have M10 : Hid (IsVm w10 j { S.L with f:=[],d:=S.L.d.take p ++ [c],r:=S.L.r.take q }):=by show IsVm _ _ _; rw [← hw10]; exact isvm_apart M9.out FW.out (ex_row _ _ _) (rbox_nou8 X9.out)
  clear hw10 X9 Y9 T9 B9 M9;have t2:=T10.out.use.2.2;have p23:=X10.out.c23;have f23:=X10.out.fr 23;go_upto_region 9 with fail
  generalize hw11 : World.setCell _ _ _ = w11;have X11 : Hid (RBox w11 w.heap.size { r with v:=j,wv:=0,dob:=false,ip:=i }):=by show RBox _ _ _; rw [← hw11]; exact X10.out.set_ip i
  have Y11 : Hid (RBox w11 (w.heap.size + 1) rn0):=by show RBox _ _ _; rw [← hw11]; exact Y10.out.away (by omega)
  have B11 : Hid (Below w.heap.size w w11):=by show Below _ _ _; rw [← hw11]; exact B10.out.setCell (p:=⟨w.heap.size,23,none⟩) (Nat.le_refl _) _
  have M11 : Hid (IsVm w11 j { S.L with f:=[],d:=S.L.d.take p ++ [c],r:=S.L.r.take q }):=by show IsVm _ _ _; rw [← hw11]; exact isvm_apart M10.out FW.out (ex_cell _ _ _ _) (rbox_nou8 X10.out)
  clear hw11 t2 p23 f23 X10 Y10 T10 B10 M10;(go_wp2_with (first | (refine wpList_rload (by rfl) _ rfl w.heap.size _ rfl X11.out ?_) | (refine wpList_rstore (by rfl) _ _ rfl (w.heap.size + 1) rn0 { r with v:=j,wv:=0,dob:=false,ip:=i } rfl rfl Y11.out ?_)));have bz:=below_setRow B11.out (show w.heap.size ≤ w.heap.size + 1 by omega) (rnC { r with v:=j,wv:=0,dob:=false,ip:=i });exact bodyPost_ret (res_rtu rfl _ _ _ _ rfl (rrow Y11.out _)) rfl ⟨{ r with v:=j,wv:=0,dob:=false,ip:=i },rfl,⟨isvm_apart M11.out FZ.out (ex_row _ _ _) (rbox_nou8 Y11.out),S9.out.trans ⟨H0.out.sc.cm,H0.out.sc.cd,H0.out.sc.cr,H0.out.sc.cw,H0.out.sc.co,H0.out.sc.here,H0.out.sc.last,H0.out.sc.qo,H0.out.sc.free,H0.out.sc.next,H0.out.sc.arg,H0.out.sc.self,H0.out.sc.now⟩,rfl,rfl,rfl,H0.out.fu,fun g hg => N9.out g (H0.out.fr g hg) (by have:=H0.out.xb g hg; have:=W9.out; omega) (by have:=H0.out.xb g hg; have:=W9.out; omega),fun g q => Nat.lt_of_lt_of_le (H0.out.xb g q) bz.size⟩,bz⟩


theorem wfail_code (S : RS) (c : Int) (hn : (c == 0) = false) : WGo1 59 c S S (thrV c):=by
  intro b w H;have W0:=zqh H;have B0:=zqh (Below.refl b w);obtain ⟨r9,h9⟩:=H;have PE:=h9.box.c27;have FE:=h9.box.fr 27;clear h9;have hn2 : (c != 0) = true:=by simpa using hn
  go_enter Tryz.func59,Tryz.ntmps59;go_wp2;refine bodyPost_end (results_none rfl _ _ _) rfl ?_;exact ⟨rfl,W0.out.set_e _ (by intro i h; cases h),B0.out.setCell (p:=⟨b,27,none⟩) (Nat.le_refl _) _⟩
end Go.Proofs.YtcmldhjicjmmgaaGreatDoor
