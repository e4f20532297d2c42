/- Part 8. -/
import Derived.RangeFuncBox
import Derived.Test.YtcmldhjicjmmgaaGreatDoorXkAG
set_option linter.unusedVariables false
set_option linter.unusedSimpArgs false
set_option maxRecDepth 100000
set_option maxHeartbeats 4000000

namespace Go.Proofs.YtcmldhjicjmmgaaGreatDoor
open Go.RowKit


def KpX (g n : Nat) (A B : World) : Prop:=A.heap.size ≤ B.heap.size ∧ ∀ k,k < n → k ≠ g → B.heap[k]? = A.heap[k]?
theorem KpX.refl (g n : Nat) (A : World) : KpX g n A A:=⟨Nat.le_refl _,fun _ _ _ => rfl⟩
theorem KpX.trans {g n : Nat} {A B C : World} (h : KpX g n A B) (k : KpX g n B C) : KpX g n A C:=⟨Nat.le_trans h.1 k.1,fun i hi hg => (k.2 i hi hg).trans (h.2 i hi hg)⟩
theorem KpX.cell {g n : Nat} {A B : World} (h : KpX g n A B) {b o : Nat} (hb : b < n) (hg : b ≠ g) : B.cell? ⟨b,o,none⟩ = A.cell? ⟨b,o,none⟩:=World.cell?_of_block (h.2 b hb hg)
theorem KpX.below {g n : Nat} {A B C : World} (h : KpX g n A B) (hn : n ≤ A.heap.size) (b : Below B.heap.size B C) : KpX g n A C:=⟨Nat.le_trans h.1 b.size,fun i hi hg => (b.block i (by have:=h.1; omega)).trans (h.2 i hi hg)⟩
theorem KpX.set {g n : Nat} {A B : World} (h : KpX g n A B) (k : Nat) (v : Value) : KpX g n A (B.setCell ⟨g,k,none⟩ v):=by
  refine ⟨by simpa using h.1,fun i hi hg => ?_⟩;rw [← h.2 i hi hg];exact Below.heap_setCell _ _ _ i hg
theorem KpX.grown {g n : Nat} {A B C : World} {row : Option Nat} (h : KpX g n A B) (hn : n ≤ A.heap.size) (hg : B.grownBy C row) (hr : ∀ k,row = some k → n ≤ k) : KpX g n A C:=by
  refine ⟨Nat.le_trans h.1 hg.size,fun i hi hne => ?_⟩;rw [hg.block i (by have:=h.1; omega) (fun e => by have:=hr i e.symm; omega)];exact h.2 i hi hne
theorem grownBy_set (W : World) (b k : Nat) (v : Value) : W.grownBy (W.setCell ⟨b,k,none⟩ v) (some b) :=
  ⟨rfl,rfl,rfl,(KeepsWalks.setCell W _ v).size,fun j _ hk => Below.heap_setCell _ _ _ j (fun e => hk (by rw [e]))⟩
theorem grownBy_setRow (W : World) (b : Nat) (cs : Array Value) : W.grownBy (W.setRow b cs) (some b) :=
  ⟨rfl,rfl,rfl,by simp [World.setRow],fun j _ hk => setRow_other W b j cs (fun e => hk (by rw [e]))⟩
theorem vowns_none (w : World) (base : Nat) : WOwns w base (.slice none 0 0) 0 []:=⟨rfl,.inl ⟨rfl,rfl⟩⟩
theorem drewN_belowV (w : World) : Below w.heap.size w w.drew:=⟨rfl,rfl,rfl,Nat.le_refl _,fun _ _ => rfl⟩
theorem wds_newoneV (w : World) (q : Wr) : Wds (w.alloc (.cells #[.string (strB q.nm),.int .i64 q.xt,.int .i64 q.fl] 81)) (.slice (some ⟨w.heap.size,0,none⟩) 1 1) [q]:=wds_block (l:=[q]) (one_newN w _ _) (by simp)
theorem step_wappV {ops : Array Oper} {o : Oper} {a : Act} {K : Act → World → Prop} {Q : Exit → Act → World → Prop} {E : Prop} {w : World} (hgd : o.guard = none) (s x : Operand)
    (ho : o.op = .call { callee:=.builtin .append,args:=#[s,x],argTypes:=#[31,31] })
    (base : Nat) (v : Value) (n : Nat) (xs : List Wr) (hs : a.eval s = v) (hown : WOwns w base v n xs)
    (A : Option Addr) (m c : Nat) (ys : List Wr) (hx : a.eval x = .slice A m c) (hr : Wds w (.slice A m c) ys) (h63 : n + m ≤ 1000000) (hbase : base ≤ w.heap.size)
    (w0 : World) (hb : Below w0.heap.size w0 w) (hB : w0.heap.size ≤ base)
    (h : ∀ v' w',WOwns w' base v' (n + m) (xs ++ ys) → Below w0.heap.size w0 w' → w.grownBy w' v.ownBlock → K (a.put o.dst v') w') :
    if Region.wanted o (yielded ops a.tmps) = true then Oper.wp Tryz.prog o a w K Q else E:=by
  have hw : Region.wanted o (yielded ops a.tmps) = true:=by simp [Region.wanted,hgd]
  rw [if_pos hw];exact wp_wapp s x ho base v n xs hs hown A m c ys hx hr h63 hbase w0 hb hB h
theorem WOwns.far {w : World} {base n g k : Nat} {v u : Value} {l : List Wr} (h : WOwns w base v n l) (hg : g < base) : WOwns (w.setCell ⟨g,k,none⟩ u) base v n l :=
  World.ownsRow.kept h (grownBy_set w g k u) (.inr fun e => by have:=(h.lt g e).1; omega)
theorem lo_byte {i N : Nat} : ((UInt8.ofNat (N % 256)).toNat : Int) = (N : Int) % 256:=by
  rw [UInt8.toNat_ofNat',Nat.mod_mod]; omega
theorem hi_byte {N : Nat} (h : N < 65536) : ((UInt8.ofNat (N / 256)).toNat : Int) = (N : Int) / 256:=by
  rw [UInt8.toNat_ofNat',Nat.mod_eq_of_lt (by omega)]; omega
theorem rnames_own (w : World) : Calls Tryz.prog 33 #[] w fun e w' => e = .returned (.slice (some ⟨w.heap.size,0,none⟩) 130 130) ∧ SOwns w' w.heap.size (.slice (some ⟨w.heap.size,0,none⟩) 130 130) 130 primL ∧ Below w.heap.size w w':=by
  go_enter Tryz.func33,Tryz.ntmps33;(go_wp2_with (refine wpList_buildStr rfl 130 _ rfl primL rfl (by decide) (by decide) (by kernel_rfl) ?_));go_ret;exact ⟨rfl,World.ownsRow_lit w (sts primL).toArray 130 (Nat.le_refl _) (by unfold maxLen; omega) (by rw [List.size_toArray,sts_len,prim_len]),al_one _ _⟩
def CBox (w : World) (b : Nat) (m d r v o : Int) : Prop:=w.heap[b]? = some (.cells #[.int .i64 m,.int .i64 d,.int .i64 r,.int .i64 v,.int .i64 o] 25 (0,0))
theorem CBox.lt {w : World} {b : Nat} {m d r v o : Int} (h : CBox w b m d r v o) : b < w.heap.size:=(Array.getElem?_eq_some_iff.1 h).1
theorem CBox.keep {w w' : World} {b : Nat} {m d r v o : Int} (h : CBox w b m d r v o) (x : Below w.heap.size w w') : CBox w' b m d r v o:=(x.block b h.lt).trans h
theorem CBox.use {w : World} {b : Nat} {m d r v o : Int} (h : CBox w b m d r v o) : w.cell? ⟨b,0,none⟩ = some (.int .i64 m) ∧ w.cell? ⟨b,1,none⟩ = some (.int .i64 d) ∧ w.cell? ⟨b,2,none⟩ = some (.int .i64 r) ∧ w.cell? ⟨b,3,none⟩ = some (.int .i64 v) ∧ w.cell? ⟨b,4,none⟩ = some (.int .i64 o):=by
  unfold CBox at h;refine ⟨?_,?_,?_,?_,?_⟩ <;> simp [World.cell?,h]
theorem cv_new (w : World) (m d r v o : Int) (k : VmK) (B : Obj) (hB : B = .cells (vmC k) 37) : Below w.heap.size w ((w.alloc (.cells #[.int .i64 m,.int .i64 d,.int .i64 r,.int .i64 v,.int .i64 o] 25)).alloc B) ∧ CBox ((w.alloc (.cells #[.int .i64 m,.int .i64 d,.int .i64 r,.int .i64 v,.int .i64 o] 25)).alloc B) w.heap.size m d r v o ∧ VBox ((w.alloc (.cells #[.int .i64 m,.int .i64 d,.int .i64 r,.int .i64 v,.int .i64 o] 25)).alloc B) (w.heap.size + 1) k:=by
  subst hB;refine ⟨((Below.refl _ _).alloc (Nat.le_refl _) _).alloc (by simp) _,?_,?_⟩
  · exact CBox.keep (one_newN w _ _) ((Below.refl _ _).alloc (Nat.le_refl _) _)
  · have:=vbox_new (w.alloc (.cells #[.int .i64 m,.int .i64 d,.int .i64 r,.int .i64 v,.int .i64 o] 25)) k
    rw [World.size_alloc] at this;exact this
theorem made_zero (n : Nat) : (madeCells (Value.int .u8 0).cells n) = (u8s (List.replicate n 0)).toArray:=by
  apply Array.ext
  · simp [madeCells,u8s]
  · intro i h1 h2
    have e : i % 1 = 0:=by omega
    simp [madeCells,u8s,Value.cells,e]
theorem made_row (w : World) (L : Nat) (hL : L ≤ 65536) : ∃ w',(Instr.makeSlice 26 (.int .i64 (L : Int)) (.int .i64 (L : Int))).run Tryz.prog w = .ok (.slice (some ⟨w.heap.size,0,none⟩) L L) w' ∧ Bw w' w.heap.size (List.replicate L 0) ∧ Below w.heap.size w w':=by
  obtain ⟨i0,hi,hz0,hz1,hz2⟩:=info_parts info_u8;refine ⟨w.alloc (.cells (u8s (List.replicate L 0)).toArray 5),?_,one_newN w _ _,al_one _ _⟩;have:=run_make (P:=Tryz.prog) w 26 5 i0 (.int .u8 0) Tryz.underlying26 hi hz0 .i64 .i64 L L (by omega) (Int.le_refl _) (by rw [hz2]; omega) (by omega);rw [hz1,Nat.mul_one,Int.toNat_natCast,made_zero] at this;exact this
def newK (L : Nat) (d r v o : Int) (g : Nat) (A : Option Addr) (c : Nat) : VmK:={ vm0 with cm:=(L : Int),cd:=d,cr:=r,cw:=v,co:=o,mA:=some ⟨g,0,none⟩,mn:=L,mc:=L,here:=1368,wA:=A,wn:=167,wc:=c }
def newL (L : Nat) : VmL:={ m:=(rowN L 167,[]),d:=[],r:=[],f:=[],dict:=newW 167,o:=[],q:=[],e:=[],h:=[] }
set_option maxHeartbeats 16000000 in
theorem rnew_yes (L : Nat) (d r v o : Int) (w : World) (hfit : fitsB (L : Int) d r v o = true) (hL : 2048 ≤ L) (hL2 : L ≤ 65536) :
    Calls Tryz.prog 19 #[.agg #[.int .i64 (L : Int),.int .i64 d,.int .i64 r,.int .i64 v,.int .i64 o]] w fun e w' => ∃ g A c,e = .returned (.tuple #[vmV (newK L d r v o g A c),.int .i64 0]) ∧ IsVm w' (newK L d r v o g A c) (newL L) ∧ Below w.heap.size w w':=by
  have HF:=zqh (rfits_any (L : Int) d r v o);rw [hfit] at HF;obtain ⟨k0,k1,k2⟩:=cv_new w (L : Int) d r v o vm0 _ rfl;have B0:=zqh k0;have C0:=zqh k1;have X0:=zqh k2;clear k0 k1 k2 hfit;go_enter Tryz.func19,Tryz.ntmps19;(go_wp2_with fail);refine (HF.out _).mono ?_;rintro e w1 ⟨rfl,bb⟩;have B1:=zqh (below_then B0.out bb);have C1:=zqh (C0.out.keep bb);have X1:=zqh (X0.out.keep bb);clear bb B0 C0 X0 HF;obtain ⟨c0,c1,c2,c3,c4⟩:=C1.out.use;obtain ⟨w2,hmk,hbw,b2⟩:=made_row w1 L hL2;have hg:=B1.out.size;have hx:=X1.out.lt;obtain ⟨g,eg⟩ : ∃ g,w1.heap.size = g:=⟨_,rfl⟩;rw [eg] at hmk hbw hg hx;have C2:=zqh (C1.out.keep b2);have X2:=zqh (X1.out.keep b2);have B2:=zqh (below_then B1.out b2);obtain ⟨⟨cc,u1⟩,u2⟩:=hbw.use (k:=0) (by simp; omega);have R2 : Hid (Bw (w2.setCell ⟨g,0,none⟩ (.int .u8 10)) g (rowN L 0)):=by
    have:=hbw.set 0 10;rw [row_zero (by omega)] at this;exact this
  have B2b:=zqh (B2.out.setCell (p:=⟨g,0,none⟩) hg (.int .u8 10));have K2 : Hid (CBox (w2.setCell ⟨g,0,none⟩ (.int .u8 10)) w.heap.size (L : Int) d r v o ∧ VBox (w2.setCell ⟨g,0,none⟩ (.int .u8 10)) (w.heap.size + 1) vm0):=⟨(Below.heap_setCell _ _ _ _ (by simp; omega)).trans C2.out,(Below.heap_setCell _ _ _ _ (by simp; omega)).trans X2.out⟩;clear hbw b2 C2 X2 B2 C1 X1 B1;(go_wp2_with fail);clear hmk eg u1 u2 c0 c1 c2 c3 c4;obtain ⟨w2b,e2⟩ : ∃ W,w2.setCell ⟨g,0,none⟩ (.int .u8 10) = W:=⟨_,rfl⟩;rw [e2] at R2 B2b K2 ⊢;clear e2;refine (rnames_own _).mono ?_;rintro e w3 ⟨rfl,hs3,bb⟩;have R3:=zqh (R2.out.keep bb);have B3:=zqh (below_then B2b.out bb);have K3 : Hid (CBox w3 w.heap.size (L : Int) d r v o ∧ VBox w3 (w.heap.size + 1) vm0):=⟨K2.out.1.keep bb,K2.out.2.keep bb⟩;have S3:=zqh hs3;have Z3:=zqh B2b.out.size;obtain ⟨g3,e3⟩ : ∃ g3,w2b.heap.size = g3:=⟨_,rfl⟩;have G3 : Hid (g < g3):=by show _ < _; rw [← e3]; exact R2.out.lt
  rw [e3] at S3 Z3 ⊢;clear bb R2 B2b K2 hs3 e3;(go_wp2_with fail);refine (rspecials_any _).mono ?_;rintro e w4 ⟨rfl,hs4,bb⟩;have R4:=zqh (R3.out.keep bb);have B4:=zqh (below_then B3.out bb);have K4 : Hid (CBox w4 w.heap.size (L : Int) d r v o ∧ VBox w4 (w.heap.size + 1) vm0):=⟨K3.out.1.keep bb,K3.out.2.keep bb⟩;have S4:=zqh (S3.out.keep bb);have T4:=zqh hs4;have hg34 : g3 ≤ w4.heap.size:=by have:=(S4.out.lt g3 rfl).2; omega
  clear bb R3 B3 K3 S3 hs4;obtain ⟨g4,e4⟩ : ∃ g4,w3.heap.size = g4:=⟨_,rfl⟩;rw [e4] at T4 ⊢;clear e4;(go_wp2_with (at_builtin; refine wpList_sapp rfl _ _ rfl g3 (.slice (some ⟨g3,0,none⟩) 130 130) 130 primL rfl S4.out (some ⟨g4,0,none⟩) 37 37 specL rfl T4.out (by omega) hg34 w B4.out Z3.out ?_; intro v5 w5 ho hb5 hgr; obtain ⟨ga,cp,rfl⟩:=ownsRow_succ (k:=166) ho; have S5:=zqh ho; have B5:=zqh hb5; have GR:=zqh hgr; clear ho hb5 hgr));have R5 : Hid (Bw w5 g (rowN L 0)):=(GR.out.block g R4.out.lt (fun e => by simp [Value.ownBlock] at e; have:=G3.out; omega)).trans R4.out;have K5 : Hid (CBox w5 w.heap.size (L : Int) d r v o ∧ VBox w5 (w.heap.size + 1) vm0):=⟨(GR.out.block _ K4.out.1.lt (fun e => by simp [Value.ownBlock] at e; have:=G3.out; omega)).trans K4.out.1,(GR.out.block _ K4.out.2.lt (fun e => by simp [Value.ownBlock] at e; have:=G3.out; omega)).trans K4.out.2⟩;have hga:=S5.out.lt ga rfl;have GA : Hid (ga < w5.heap.size ∧ ga ≠ g ∧ w.heap.size + 1 < w5.heap.size ∧ g < w5.heap.size):=⟨hga.2,by have:=G3.out; omega,K5.out.2.lt,R5.out.lt⟩;have CL : Hid (∀ i,i < 167 → w5.cell? ⟨ga,i,none⟩ = some (.string (strB (nmN i)))):=by
    show ∀ _,_;intro i hi;rw [World.ownsRow.cellAt S5.out i (by omega)];have:=nm_at hi;unfold sts;rw [List.getElem?_map];unfold nmsL at this;rw [this];rfl
  clear S5 S4 T4 R4 K4 B4 GR Z3 hga hg34
  go_loopw [7,8] (fun s7 s8 wr => ∃ (i : Nat) (x : Value),x = s7 ∧ s8 = .int .i64 (i : Int) ∧ i ≤ 167 ∧ Hid (Bw wr g (rowN L i)) ∧ Hid (WOwns wr w5.heap.size x i (newW i)) ∧ Hid (KpX g w5.heap.size w5 wr) ∧ Hid (Below w.heap.size w wr)) (fun _ s8 _ => 167 - (intOf s8).toNat)
  case atStart => exact ⟨0,_,rfl,rfl,by omega,R5,zqh (vowns_none _ _),zqh (KpX.refl _ _ _),B5⟩
  case round =>
    clear R5 B5;obtain ⟨i,x,ex,rfl,hi,HR,HO,HK,HB⟩:=hrel;subst ex
    by_cases hil : i < 167
    · have hil' : (i : Int) < 167:=by omega
      have HN:=zqh (rnames_any wr);obtain ⟨s,es⟩ : ∃ s,nmN i = s:=⟨_,rfl⟩;obtain ⟨fl,ef⟩ : ∃ f,flagF s i = f:=⟨_,rfl⟩;have CI : Hid (w5.cell? ⟨ga,i,none⟩ = some (.string (strB s))):=by show _ = _; rw [CL.out i hil,es]
      have WN : Hid (wordN i = ⟨s,32 + 8 * (i : Int),fl⟩):=by
        show _ = _;unfold wordN;rw [es,ef]
        congr 1
      have HFL : Hid (∀ a,Calls Tryz.prog 35 #[.string (strB s),.int .i64 (i : Int)] a fun e w' => e = .returned (.int .i64 fl) ∧ Below a.heap.size a w'):=by
        show ∀ _,_;intro a;have:=rflags_any s i a (by omega);rw [ef] at this;exact this
      obtain ⟨RN,eRN⟩ : ∃ r,((rowN L i).set (32 + 8 * i) (UInt8.ofNat (numN i % 256))).set (32 + 8 * i + 1) (UInt8.ofNat (numN i / 256)) = r:=⟨_,rfl⟩;have HRN:=zqh eRN;have HNM:=zqh es;clear es ef eRN
      by_cases h8 : i = 8
      · have HE:=zqh h8
        have hlo : i < 130:=by omega
        have hlo' : decide ((130 : Int) ≤ (i : Int)) = false:=by simp; omega
        have H8y : Hid (s = [40,104,97,108,116,41]):=by show _ = _; rw [← HNM.out,h8]; rfl
        have H9n : Hid (¬ s = [40,99,97,117,103,104,116,41]):=by show ¬ _; rw [H8y.out]; decide
        have n8a : ((strB s).toList == [40,104,97,108,116,41]) = true:=by rw [str_toList]; simpa using H8y.out
        have n8b : (strB s).toList = [40,104,97,108,116,41]:=by rw [str_toList]; exact H8y.out
        have n9a : ((strB s).toList == [40,99,97,117,103,104,116,41]) = false:=by rw [str_toList]; simpa using H9n.out
        have n9b : ¬ (strB s).toList = [40,99,97,117,103,104,116,41]:=by rw [str_toList]; exact H9n.out
        clear h8;(go_wp2_with fail);refine HN.out.mono ?_;rintro e w6 ⟨rfl,-,bb⟩;have R6:=zqh (HR.out.keep bb);have O6:=zqh (HO.out.keep bb);have K6:=zqh (HK.out.below (Nat.le_refl _) bb);have B6:=zqh (below_then HB.out bb);clear bb HR HO HK HB HN;have R7:=R6;have O7:=O6;have K7:=K6;have B7:=B6;clear R6 O6 K6 B6;obtain ⟨⟨ca,u1⟩,u2⟩:=R7.out.use (k:=32 + 8 * i) (by rw [rowN_len]; omega);obtain ⟨⟨cb,u3⟩,u4⟩:=R7.out.use (k:=32 + 8 * i + 1) (by rw [rowN_len]; omega);(go_wp2_with fail);have h1:=(R7.out.set (32 + 8 * i) (UInt8.ofNat (numN i % 256))).set (32 + 8 * i + 1) (UInt8.ofNat (numN i / 256));rw [HRN.out,lo_byte (i:=0),hi_byte (by have:=num_le hil; omega),num_lo hlo] at h1;have K8:=zqh ((K7.out.set (32 + 8 * i) (.int .u8 ((i : Int) % 256))).set (32 + 8 * i + 1) (.int .u8 ((i : Int) / 256)));have O8:=zqh ((O7.out.far (g:=g) (k:=32 + 8 * i) (u:=.int .u8 ((i : Int) % 256)) GA.out.2.2.2).far (g:=g) (k:=32 + 8 * i + 1) (u:=.int .u8 ((i : Int) / 256)) GA.out.2.2.2);have B8:=zqh ((B7.out.setCell (p:=⟨g,32 + 8 * i,none⟩) hg (.int .u8 ((i : Int) % 256))).setCell (p:=⟨g,32 + 8 * i + 1,none⟩) hg (.int .u8 ((i : Int) / 256)));obtain ⟨w8,e8⟩ : ∃ W,(w6.setCell ⟨g,32 + 8 * i,none⟩ (.int .u8 ((i : Int) % 256))).setCell ⟨g,32 + 8 * i + 1,none⟩ (.int .u8 ((i : Int) / 256)) = W:=⟨_,rfl⟩;rw [e8] at h1 K8 O8 B8 ⊢;have R8:=zqh h1;have HC8 : Hid (w8.cell? ⟨ga,i,none⟩ = some (.string (strB s))):=(K8.out.cell (o:=i) GA.out.1 GA.out.2.1).trans CI.out
        clear h1 e8 u1 u2 u3 u4 R7 K7 O7 B7;refine wp_region_noPanic ?_;refine wp_region_held_drew (S:=fun a => a.cell? ⟨ga,i,none⟩ = some (.string (strB s))) (by kernel_rfl) ?_ (fun hHeld => ?_)
        · exact HC8.out
        refine zqa 0 ?_;refine zqa 1 ?_;refine zqa 2 ?_;refine zqa 3 ?_;refine zqa 4 ?_;refine zqa 5 ?_;refine zqa 6 ?_;refine zqa 7 ?_;refine zqa 8 ?_;refine zqa 9 ?_;refine zqa 10 ?_;refine zqr 11 fun K hK => ?_
        go_simp
        go_at_call 35
        refine (HFL.out _).mono ?_;rintro e w9 ⟨rfl,b9⟩;have b8 : Below w8.heap.size w8 w9:=below_then (drewN_belowV w8) b9;have O9:=zqh (O8.out.keep b8);have R9:=zqh (R8.out.keep b8);have K9:=zqh (K8.out.below (Nat.le_refl _) b8);have B9:=zqh (below_then B8.out b8);have C9 : Hid (w9.cell? ⟨ga,i,none⟩ = some (.string (strB s))):=(K9.out.cell (o:=i) GA.out.1 GA.out.2.1).trans CI.out;clear b8 b9 O8 R8 K8 B8 HC8;(go_wp2_with fail);clear hHeld;refine hK.out _ _ C9.out (fun hHeld => ?_);clear hK K;(try simp only [zq,Act.put]);refine zqa 12 ?_;refine zqr 13 fun K hK => ?_
        go_simp;(go_wp2_with fail);clear hHeld;refine hK.out _ _ ((Below.cell (al_one w9 _) (p:=⟨ga,i,none⟩) (by have:=K9.out.1; have:=GA.out.1; show ga < _; omega)).trans C9.out) (fun hHeld => ?_);clear hK K;(try simp only [zq,Act.put]);refine zqr 14 fun K hK => ?_
        refine step_wappV rfl _ _ rfl w5.heap.size x i (newW i) rfl (O9.out.alloc _) (some ⟨w9.heap.size,0,none⟩) 1 1 [⟨s,32 + 8 * (i : Int),fl⟩] rfl (wds_newoneV w9 ⟨s,32 + 8 * (i : Int),fl⟩) (by omega) (by have:=K9.out.1; simp; omega) w (alloc_then B9.out) (by have:=GA.out.2.2.1; omega) ?_;intro v2 w10 ho hb hgr;have hrb : ∀ k,x.ownBlock = some k → w5.heap.size ≤ k:=fun k hk => (O9.out.lt k hk).1
        have O10 : Hid (WOwns w10 w5.heap.size v2 (i + 1) (newW (i + 1))):=by show _; rw [newW_succ,WN.out]; exact ho
        have K10:=zqh ((K9.out.below (Nat.le_refl _) (al_one w9 _)).grown (Nat.le_refl _) hgr hrb);have R10 : Hid (Bw w10 g RN):=(hgr.block g (by have:=R9.out.lt; simp; omega) (by intro e; have:=hrb g e.symm; have:=GA.out.2.2.2; omega)).trans (R9.out.keep (al_one w9 _));have B10:=zqh hb;have C10 : Hid (w10.cell? ⟨ga,i,none⟩ = some (.string (strB s))):=(K10.out.cell (o:=i) GA.out.1 GA.out.2.1).trans CI.out;clear ho hb hgr hrb hHeld;refine hK.out _ _ C10.out (fun hHeld => ?_);clear hK K;(try simp only [zq,Act.put]);refine zqa 15 ?_;refine wpAnyH_done (by kernel_rfl) ?_ _;refine NoPanic.normal ?_;clear O9 R9 K9 B9 C9 hHeld;have cl:=C10.out;clear C10;obtain ⟨⟨ca,u1⟩,u2⟩:=R10.out.use (k:=16) (by rw [← HRN.out]; simp [rowN_len]; omega);obtain ⟨⟨cb,u3⟩,u4⟩:=R10.out.use (k:=17) (by rw [← HRN.out]; simp [rowN_len]; omega);go_upto_region 21 with fail
        have h1:=(R10.out.set 16 96).set 17 0;rw [← HRN.out] at h1;have K11:=zqh ((K10.out.set 16 (.int .u8 ((32 + 8 * (i : Int)) % 256))).set 17 (.int .u8 ((32 + 8 * (i : Int)) / 256)));have O11:=zqh ((O10.out.far (g:=g) (k:=16) (u:=.int .u8 ((32 + 8 * (i : Int)) % 256)) GA.out.2.2.2).far (g:=g) (k:=17) (u:=.int .u8 ((32 + 8 * (i : Int)) / 256)) GA.out.2.2.2);have B11:=zqh ((B10.out.setCell (p:=⟨g,16,none⟩) hg (.int .u8 ((32 + 8 * (i : Int)) % 256))).setCell (p:=⟨g,17,none⟩) hg (.int .u8 ((32 + 8 * (i : Int)) / 256)));have h2 : Bw ((w10.setCell ⟨g,16,none⟩ (.int .u8 ((32 + 8 * (i : Int)) % 256))).setCell ⟨g,17,none⟩ (.int .u8 ((32 + 8 * (i : Int)) / 256))) g (rowN L (i + 1)):=by
          have hk:=HE.out;subst hk;rw [show rowN L (8 + 1) = _ from (row_step8 (L:=L) (by omega)).symm];exact h1
        obtain ⟨w11,e11⟩ : ∃ W,(w10.setCell ⟨g,16,none⟩ (.int .u8 ((32 + 8 * (i : Int)) % 256))).setCell ⟨g,17,none⟩ (.int .u8 ((32 + 8 * (i : Int)) / 256)) = W:=⟨_,rfl⟩;rw [e11] at h2 K11 O11 B11 ⊢;have R11:=zqh h2;have c11 : w11.cell? ⟨ga,i,none⟩ = some (.string (strB s)):=(K11.out.cell (o:=i) GA.out.1 GA.out.2.1).trans CI.out;clear h1 h2 e11 u1 u2 u3 u4 R10 K10 O10 B10 cl;(go_wp2_with fail)
        go_roundw
        case rel => exact ⟨i + 1,_,rfl,by simp,by omega,R11,O11,K11,B11⟩
        case measure => simp [intOf]; omega
      · by_cases h9 : i = 9
        · have HE:=zqh h9
          have hlo : i < 130:=by omega
          have hlo' : decide ((130 : Int) ≤ (i : Int)) = false:=by simp; omega
          have H9y : Hid (s = [40,99,97,117,103,104,116,41]):=by show _ = _; rw [← HNM.out,h9]; rfl
          have H8n : Hid (¬ s = [40,104,97,108,116,41]):=by show ¬ _; rw [H9y.out]; decide
          have n8a : ((strB s).toList == [40,104,97,108,116,41]) = false:=by rw [str_toList]; simpa using H8n.out
          have n8b : ¬ (strB s).toList = [40,104,97,108,116,41]:=by rw [str_toList]; exact H8n.out
          have n9a : ((strB s).toList == [40,99,97,117,103,104,116,41]) = true:=by rw [str_toList]; simpa using H9y.out
          have n9b : (strB s).toList = [40,99,97,117,103,104,116,41]:=by rw [str_toList]; exact H9y.out
          clear h9 h8;(go_wp2_with fail);refine HN.out.mono ?_;rintro e w6 ⟨rfl,-,bb⟩;have R6:=zqh (HR.out.keep bb);have O6:=zqh (HO.out.keep bb);have K6:=zqh (HK.out.below (Nat.le_refl _) bb);have B6:=zqh (below_then HB.out bb);clear bb HR HO HK HB HN;have R7:=R6;have O7:=O6;have K7:=K6;have B7:=B6;clear R6 O6 K6 B6;obtain ⟨⟨ca,u1⟩,u2⟩:=R7.out.use (k:=32 + 8 * i) (by rw [rowN_len]; omega);obtain ⟨⟨cb,u3⟩,u4⟩:=R7.out.use (k:=32 + 8 * i + 1) (by rw [rowN_len]; omega);(go_wp2_with fail);have h1:=(R7.out.set (32 + 8 * i) (UInt8.ofNat (numN i % 256))).set (32 + 8 * i + 1) (UInt8.ofNat (numN i / 256));rw [HRN.out,lo_byte (i:=0),hi_byte (by have:=num_le hil; omega),num_lo hlo] at h1;have K8:=zqh ((K7.out.set (32 + 8 * i) (.int .u8 ((i : Int) % 256))).set (32 + 8 * i + 1) (.int .u8 ((i : Int) / 256)));have O8:=zqh ((O7.out.far (g:=g) (k:=32 + 8 * i) (u:=.int .u8 ((i : Int) % 256)) GA.out.2.2.2).far (g:=g) (k:=32 + 8 * i + 1) (u:=.int .u8 ((i : Int) / 256)) GA.out.2.2.2);have B8:=zqh ((B7.out.setCell (p:=⟨g,32 + 8 * i,none⟩) hg (.int .u8 ((i : Int) % 256))).setCell (p:=⟨g,32 + 8 * i + 1,none⟩) hg (.int .u8 ((i : Int) / 256)));obtain ⟨w8,e8⟩ : ∃ W,(w6.setCell ⟨g,32 + 8 * i,none⟩ (.int .u8 ((i : Int) % 256))).setCell ⟨g,32 + 8 * i + 1,none⟩ (.int .u8 ((i : Int) / 256)) = W:=⟨_,rfl⟩;rw [e8] at h1 K8 O8 B8 ⊢;have R8:=zqh h1;have HC8 : Hid (w8.cell? ⟨ga,i,none⟩ = some (.string (strB s))):=(K8.out.cell (o:=i) GA.out.1 GA.out.2.1).trans CI.out
          clear h1 e8 u1 u2 u3 u4 R7 K7 O7 B7;refine wp_region_noPanic ?_;refine wp_region_held_drew (S:=fun a => a.cell? ⟨ga,i,none⟩ = some (.string (strB s))) (by kernel_rfl) ?_ (fun hHeld => ?_)
          · exact HC8.out
          refine zqa 0 ?_;refine zqa 1 ?_;refine zqa 2 ?_;refine zqa 3 ?_;refine zqa 4 ?_;refine zqa 5 ?_;refine zqa 6 ?_;refine zqa 7 ?_;refine zqa 8 ?_;refine zqa 9 ?_;refine zqa 10 ?_;refine zqr 11 fun K hK => ?_
          go_simp
          go_at_call 35
          refine (HFL.out _).mono ?_;rintro e w9 ⟨rfl,b9⟩;have b8 : Below w8.heap.size w8 w9:=below_then (drewN_belowV w8) b9;have O9:=zqh (O8.out.keep b8);have R9:=zqh (R8.out.keep b8);have K9:=zqh (K8.out.below (Nat.le_refl _) b8);have B9:=zqh (below_then B8.out b8);have C9 : Hid (w9.cell? ⟨ga,i,none⟩ = some (.string (strB s))):=(K9.out.cell (o:=i) GA.out.1 GA.out.2.1).trans CI.out;clear b8 b9 O8 R8 K8 B8 HC8;(go_wp2_with fail);clear hHeld;refine hK.out _ _ C9.out (fun hHeld => ?_);clear hK K;(try simp only [zq,Act.put]);refine zqa 12 ?_;refine zqr 13 fun K hK => ?_
          go_simp;(go_wp2_with fail);clear hHeld;refine hK.out _ _ ((Below.cell (al_one w9 _) (p:=⟨ga,i,none⟩) (by have:=K9.out.1; have:=GA.out.1; show ga < _; omega)).trans C9.out) (fun hHeld => ?_);clear hK K;(try simp only [zq,Act.put]);refine zqr 14 fun K hK => ?_
          refine step_wappV rfl _ _ rfl w5.heap.size x i (newW i) rfl (O9.out.alloc _) (some ⟨w9.heap.size,0,none⟩) 1 1 [⟨s,32 + 8 * (i : Int),fl⟩] rfl (wds_newoneV w9 ⟨s,32 + 8 * (i : Int),fl⟩) (by omega) (by have:=K9.out.1; simp; omega) w (alloc_then B9.out) (by have:=GA.out.2.2.1; omega) ?_;intro v2 w10 ho hb hgr;have hrb : ∀ k,x.ownBlock = some k → w5.heap.size ≤ k:=fun k hk => (O9.out.lt k hk).1
          have O10 : Hid (WOwns w10 w5.heap.size v2 (i + 1) (newW (i + 1))):=by show _; rw [newW_succ,WN.out]; exact ho
          have K10:=zqh ((K9.out.below (Nat.le_refl _) (al_one w9 _)).grown (Nat.le_refl _) hgr hrb);have R10 : Hid (Bw w10 g RN):=(hgr.block g (by have:=R9.out.lt; simp; omega) (by intro e; have:=hrb g e.symm; have:=GA.out.2.2.2; omega)).trans (R9.out.keep (al_one w9 _));have B10:=zqh hb;have C10 : Hid (w10.cell? ⟨ga,i,none⟩ = some (.string (strB s))):=(K10.out.cell (o:=i) GA.out.1 GA.out.2.1).trans CI.out;clear ho hb hgr hrb hHeld;refine hK.out _ _ C10.out (fun hHeld => ?_);clear hK K;(try simp only [zq,Act.put]);refine zqa 15 ?_;refine wpAnyH_done (by kernel_rfl) ?_ _;refine NoPanic.normal ?_;clear O9 R9 K9 B9 C9 hHeld;have cl:=C10.out;clear C10;obtain ⟨⟨ca,u1⟩,u2⟩:=R10.out.use (k:=24) (by rw [← HRN.out]; simp [rowN_len]; omega);obtain ⟨⟨cb,u3⟩,u4⟩:=R10.out.use (k:=25) (by rw [← HRN.out]; simp [rowN_len]; omega);go_upto_region 10 with fail
          have h1:=(R10.out.set 24 104).set 25 0;rw [← HRN.out] at h1;have K11:=zqh ((K10.out.set 24 (.int .u8 ((32 + 8 * (i : Int)) % 256))).set 25 (.int .u8 ((32 + 8 * (i : Int)) / 256)));have O11:=zqh ((O10.out.far (g:=g) (k:=24) (u:=.int .u8 ((32 + 8 * (i : Int)) % 256)) GA.out.2.2.2).far (g:=g) (k:=25) (u:=.int .u8 ((32 + 8 * (i : Int)) / 256)) GA.out.2.2.2);have B11:=zqh ((B10.out.setCell (p:=⟨g,24,none⟩) hg (.int .u8 ((32 + 8 * (i : Int)) % 256))).setCell (p:=⟨g,25,none⟩) hg (.int .u8 ((32 + 8 * (i : Int)) / 256)));have h2 : Bw ((w10.setCell ⟨g,24,none⟩ (.int .u8 ((32 + 8 * (i : Int)) % 256))).setCell ⟨g,25,none⟩ (.int .u8 ((32 + 8 * (i : Int)) / 256))) g (rowN L (i + 1)):=by
            have hk:=HE.out;subst hk;rw [show rowN L (9 + 1) = _ from (row_step9 (L:=L) (by omega)).symm];exact h1
          obtain ⟨w11,e11⟩ : ∃ W,(w10.setCell ⟨g,24,none⟩ (.int .u8 ((32 + 8 * (i : Int)) % 256))).setCell ⟨g,25,none⟩ (.int .u8 ((32 + 8 * (i : Int)) / 256)) = W:=⟨_,rfl⟩;rw [e11] at h2 K11 O11 B11 ⊢;have R11:=zqh h2;have c11 : w11.cell? ⟨ga,i,none⟩ = some (.string (strB s)):=(K11.out.cell (o:=i) GA.out.1 GA.out.2.1).trans CI.out;clear h1 h2 e11 u1 u2 u3 u4 R10 K10 O10 B10 cl;(go_wp2_with fail)
          go_roundw
          case rel => exact ⟨i + 1,_,rfl,by simp,by omega,R11,O11,K11,B11⟩
          case measure => simp [intOf]; omega
        · have H8:=zqh h8
          have H9:=zqh h9;have H8n : Hid (¬ s = [40,104,97,108,116,41]):=by show ¬ _; rw [← HNM.out]; exact nm_halt i hil h8
          have H9n : Hid (¬ s = [40,99,97,117,103,104,116,41]):=by show ¬ _; rw [← HNM.out]; exact nm_caught i hil h9
          have n8a : ((strB s).toList == [40,104,97,108,116,41]) = false:=by rw [str_toList]; simpa using H8n.out
          have n8b : ¬ (strB s).toList = [40,104,97,108,116,41]:=by rw [str_toList]; exact H8n.out
          have n9a : ((strB s).toList == [40,99,97,117,103,104,116,41]) = false:=by rw [str_toList]; simpa using H9n.out
          have n9b : ¬ (strB s).toList = [40,99,97,117,103,104,116,41]:=by rw [str_toList]; exact H9n.out
          clear h9 h8
          by_cases hlo : i < 130
          · have hlo' : decide ((130 : Int) ≤ (i : Int)) = false:=by simp; omega
            (go_wp2_with fail);refine HN.out.mono ?_;rintro e w6 ⟨rfl,-,bb⟩;have R6:=zqh (HR.out.keep bb);have O6:=zqh (HO.out.keep bb);have K6:=zqh (HK.out.below (Nat.le_refl _) bb);have B6:=zqh (below_then HB.out bb);clear bb HR HO HK HB HN;have R7:=R6;have O7:=O6;have K7:=K6;have B7:=B6;clear R6 O6 K6 B6;obtain ⟨⟨ca,u1⟩,u2⟩:=R7.out.use (k:=32 + 8 * i) (by rw [rowN_len]; omega);obtain ⟨⟨cb,u3⟩,u4⟩:=R7.out.use (k:=32 + 8 * i + 1) (by rw [rowN_len]; omega);(go_wp2_with fail);have h1:=(R7.out.set (32 + 8 * i) (UInt8.ofNat (numN i % 256))).set (32 + 8 * i + 1) (UInt8.ofNat (numN i / 256));rw [HRN.out,lo_byte (i:=0),hi_byte (by have:=num_le hil; omega),num_lo hlo] at h1;have K8:=zqh ((K7.out.set (32 + 8 * i) (.int .u8 ((i : Int) % 256))).set (32 + 8 * i + 1) (.int .u8 ((i : Int) / 256)));have O8:=zqh ((O7.out.far (g:=g) (k:=32 + 8 * i) (u:=.int .u8 ((i : Int) % 256)) GA.out.2.2.2).far (g:=g) (k:=32 + 8 * i + 1) (u:=.int .u8 ((i : Int) / 256)) GA.out.2.2.2);have B8:=zqh ((B7.out.setCell (p:=⟨g,32 + 8 * i,none⟩) hg (.int .u8 ((i : Int) % 256))).setCell (p:=⟨g,32 + 8 * i + 1,none⟩) hg (.int .u8 ((i : Int) / 256)));obtain ⟨w8,e8⟩ : ∃ W,(w6.setCell ⟨g,32 + 8 * i,none⟩ (.int .u8 ((i : Int) % 256))).setCell ⟨g,32 + 8 * i + 1,none⟩ (.int .u8 ((i : Int) / 256)) = W:=⟨_,rfl⟩;rw [e8] at h1 K8 O8 B8 ⊢;have R8:=zqh h1;have HC8 : Hid (w8.cell? ⟨ga,i,none⟩ = some (.string (strB s))):=(K8.out.cell (o:=i) GA.out.1 GA.out.2.1).trans CI.out
            clear h1 e8 u1 u2 u3 u4 R7 K7 O7 B7;refine wp_region_noPanic ?_;refine wp_region_held_drew (S:=fun a => a.cell? ⟨ga,i,none⟩ = some (.string (strB s))) (by kernel_rfl) ?_ (fun hHeld => ?_)
            · exact HC8.out
            refine zqa 0 ?_;refine zqa 1 ?_;refine zqa 2 ?_;refine zqa 3 ?_;refine zqa 4 ?_;refine zqa 5 ?_;refine zqa 6 ?_;refine zqa 7 ?_;refine zqa 8 ?_;refine zqa 9 ?_;refine zqa 10 ?_;refine zqr 11 fun K hK => ?_
            go_simp
            go_at_call 35
            refine (HFL.out _).mono ?_;rintro e w9 ⟨rfl,b9⟩;have b8 : Below w8.heap.size w8 w9:=below_then (drewN_belowV w8) b9;have O9:=zqh (O8.out.keep b8);have R9:=zqh (R8.out.keep b8);have K9:=zqh (K8.out.below (Nat.le_refl _) b8);have B9:=zqh (below_then B8.out b8);have C9 : Hid (w9.cell? ⟨ga,i,none⟩ = some (.string (strB s))):=(K9.out.cell (o:=i) GA.out.1 GA.out.2.1).trans CI.out;clear b8 b9 O8 R8 K8 B8 HC8;(go_wp2_with fail);clear hHeld;refine hK.out _ _ C9.out (fun hHeld => ?_);clear hK K;(try simp only [zq,Act.put]);refine zqa 12 ?_;refine zqr 13 fun K hK => ?_
            go_simp;(go_wp2_with fail);clear hHeld;refine hK.out _ _ ((Below.cell (al_one w9 _) (p:=⟨ga,i,none⟩) (by have:=K9.out.1; have:=GA.out.1; show ga < _; omega)).trans C9.out) (fun hHeld => ?_);clear hK K;(try simp only [zq,Act.put]);refine zqr 14 fun K hK => ?_
            refine step_wappV rfl _ _ rfl w5.heap.size x i (newW i) rfl (O9.out.alloc _) (some ⟨w9.heap.size,0,none⟩) 1 1 [⟨s,32 + 8 * (i : Int),fl⟩] rfl (wds_newoneV w9 ⟨s,32 + 8 * (i : Int),fl⟩) (by omega) (by have:=K9.out.1; simp; omega) w (alloc_then B9.out) (by have:=GA.out.2.2.1; omega) ?_;intro v2 w10 ho hb hgr;have hrb : ∀ k,x.ownBlock = some k → w5.heap.size ≤ k:=fun k hk => (O9.out.lt k hk).1
            have O10 : Hid (WOwns w10 w5.heap.size v2 (i + 1) (newW (i + 1))):=by show _; rw [newW_succ,WN.out]; exact ho
            have K10:=zqh ((K9.out.below (Nat.le_refl _) (al_one w9 _)).grown (Nat.le_refl _) hgr hrb);have R10 : Hid (Bw w10 g RN):=(hgr.block g (by have:=R9.out.lt; simp; omega) (by intro e; have:=hrb g e.symm; have:=GA.out.2.2.2; omega)).trans (R9.out.keep (al_one w9 _));have B10:=zqh hb;have C10 : Hid (w10.cell? ⟨ga,i,none⟩ = some (.string (strB s))):=(K10.out.cell (o:=i) GA.out.1 GA.out.2.1).trans CI.out;clear ho hb hgr hrb hHeld;refine hK.out _ _ C10.out (fun hHeld => ?_);clear hK K;(try simp only [zq,Act.put]);refine zqa 15 ?_;refine wpAnyH_done (by kernel_rfl) ?_ _;refine NoPanic.normal ?_;clear O9 R9 K9 B9 C9 hHeld;have cl:=C10.out;clear C10;(go_wp2_with fail)
            go_roundw
            case rel =>
              have h:=R10.out;rw [← HRN.out,row_step hil (by omega) H8.out H9.out] at h;exact ⟨i + 1,_,rfl,by simp,by omega,zqh h,O10,K10,B10⟩
            case measure => simp [intOf]; omega
          · have hlo' : (130 : Int) ≤ (i : Int):=by omega
            (go_wp2_with fail);refine HN.out.mono ?_;rintro e w6 ⟨rfl,-,bb⟩;have R6:=zqh (HR.out.keep bb);have O6:=zqh (HO.out.keep bb);have K6:=zqh (HK.out.below (Nat.le_refl _) bb);have B6:=zqh (below_then HB.out bb);clear bb HR HO HK HB HN;(go_wp2_with fail);refine (rnames_any _).mono ?_;rintro e w7 ⟨rfl,-,bb⟩;have R7:=zqh (R6.out.keep bb);have O7:=zqh (O6.out.keep bb);have K7:=zqh (K6.out.below (Nat.le_refl _) bb);have B7:=zqh (below_then B6.out bb);clear bb R6 O6 K6 B6;obtain ⟨⟨ca,u1⟩,u2⟩:=R7.out.use (k:=32 + 8 * i) (by rw [rowN_len]; omega);obtain ⟨⟨cb,u3⟩,u4⟩:=R7.out.use (k:=32 + 8 * i + 1) (by rw [rowN_len]; omega);(go_wp2_with fail);have h1:=(R7.out.set (32 + 8 * i) (UInt8.ofNat (numN i % 256))).set (32 + 8 * i + 1) (UInt8.ofNat (numN i / 256));rw [HRN.out,lo_byte (i:=0),hi_byte (by have:=num_le hil; omega),num_hi hlo] at h1;rw [show ((170 + i : Nat) : Int) = 300 + (i : Int) - 130 by omega] at h1;have K8:=zqh ((K7.out.set (32 + 8 * i) (.int .u8 ((300 + (i : Int) - 130) % 256))).set (32 + 8 * i + 1) (.int .u8 ((300 + (i : Int) - 130) / 256)));have O8:=zqh ((O7.out.far (g:=g) (k:=32 + 8 * i) (u:=.int .u8 ((300 + (i : Int) - 130) % 256)) GA.out.2.2.2).far (g:=g) (k:=32 + 8 * i + 1) (u:=.int .u8 ((300 + (i : Int) - 130) / 256)) GA.out.2.2.2);have B8:=zqh ((B7.out.setCell (p:=⟨g,32 + 8 * i,none⟩) hg (.int .u8 ((300 + (i : Int) - 130) % 256))).setCell (p:=⟨g,32 + 8 * i + 1,none⟩) hg (.int .u8 ((300 + (i : Int) - 130) / 256)))
            obtain ⟨w8,e8⟩ : ∃ W,(w7.setCell ⟨g,32 + 8 * i,none⟩ (.int .u8 ((300 + (i : Int) - 130) % 256))).setCell ⟨g,32 + 8 * i + 1,none⟩ (.int .u8 ((300 + (i : Int) - 130) / 256)) = W:=⟨_,rfl⟩;rw [e8] at h1 K8 O8 B8 ⊢;have R8:=zqh h1;have HC8 : Hid (w8.cell? ⟨ga,i,none⟩ = some (.string (strB s))):=(K8.out.cell (o:=i) GA.out.1 GA.out.2.1).trans CI.out;clear h1 e8 u1 u2 u3 u4 R7 K7 O7 B7;refine wp_region_noPanic ?_;refine wp_region_held_drew (S:=fun a => a.cell? ⟨ga,i,none⟩ = some (.string (strB s))) (by kernel_rfl) ?_ (fun hHeld => ?_)
            · exact HC8.out
            refine zqa 0 ?_;refine zqa 1 ?_;refine zqa 2 ?_;refine zqa 3 ?_;refine zqa 4 ?_;refine zqa 5 ?_;refine zqa 6 ?_;refine zqa 7 ?_;refine zqa 8 ?_;refine zqa 9 ?_;refine zqa 10 ?_;refine zqr 11 fun K hK => ?_
            go_simp
            go_at_call 35
            refine (HFL.out _).mono ?_;rintro e w9 ⟨rfl,b9⟩;have b8 : Below w8.heap.size w8 w9:=below_then (drewN_belowV w8) b9;have O9:=zqh (O8.out.keep b8);have R9:=zqh (R8.out.keep b8);have K9:=zqh (K8.out.below (Nat.le_refl _) b8);have B9:=zqh (below_then B8.out b8);have C9 : Hid (w9.cell? ⟨ga,i,none⟩ = some (.string (strB s))):=(K9.out.cell (o:=i) GA.out.1 GA.out.2.1).trans CI.out;clear b8 b9 O8 R8 K8 B8 HC8;(go_wp2_with fail);clear hHeld;refine hK.out _ _ C9.out (fun hHeld => ?_);clear hK K;(try simp only [zq,Act.put]);refine zqa 12 ?_;refine zqr 13 fun K hK => ?_
            go_simp;(go_wp2_with fail);clear hHeld;refine hK.out _ _ ((Below.cell (al_one w9 _) (p:=⟨ga,i,none⟩) (by have:=K9.out.1; have:=GA.out.1; show ga < _; omega)).trans C9.out) (fun hHeld => ?_);clear hK K;(try simp only [zq,Act.put]);refine zqr 14 fun K hK => ?_
            refine step_wappV rfl _ _ rfl w5.heap.size x i (newW i) rfl (O9.out.alloc _) (some ⟨w9.heap.size,0,none⟩) 1 1 [⟨s,32 + 8 * (i : Int),fl⟩] rfl (wds_newoneV w9 ⟨s,32 + 8 * (i : Int),fl⟩) (by omega) (by have:=K9.out.1; simp; omega) w (alloc_then B9.out) (by have:=GA.out.2.2.1; omega) ?_;intro v2 w10 ho hb hgr;have hrb : ∀ k,x.ownBlock = some k → w5.heap.size ≤ k:=fun k hk => (O9.out.lt k hk).1
            have O10 : Hid (WOwns w10 w5.heap.size v2 (i + 1) (newW (i + 1))):=by show _; rw [newW_succ,WN.out]; exact ho
            have K10:=zqh ((K9.out.below (Nat.le_refl _) (al_one w9 _)).grown (Nat.le_refl _) hgr hrb);have R10 : Hid (Bw w10 g RN):=(hgr.block g (by have:=R9.out.lt; simp; omega) (by intro e; have:=hrb g e.symm; have:=GA.out.2.2.2; omega)).trans (R9.out.keep (al_one w9 _));have B10:=zqh hb;have C10 : Hid (w10.cell? ⟨ga,i,none⟩ = some (.string (strB s))):=(K10.out.cell (o:=i) GA.out.1 GA.out.2.1).trans CI.out;clear ho hb hgr hrb hHeld;refine hK.out _ _ C10.out (fun hHeld => ?_);clear hK K;(try simp only [zq,Act.put]);refine zqa 15 ?_;refine wpAnyH_done (by kernel_rfl) ?_ _;refine NoPanic.normal ?_;clear O9 R9 K9 B9 C9 hHeld;have cl:=C10.out;clear C10;(go_wp2_with fail)
            go_roundw
            case rel =>
              have h:=R10.out;rw [← HRN.out,row_step hil (by omega) H8.out H9.out] at h;exact ⟨i + 1,_,rfl,by simp,by omega,zqh h,O10,K10,B10⟩
            case measure => simp [intOf]; omega
    · obtain rfl : i = 167:=by omega
      have hlt : decide ((167 : Int) < (167 : Int)) = false:=by decide
      have CW : Hid (CBox wr w.heap.size (L : Int) d r v o):=(HK.out.2 _ (by have:=GA.out.2.2.1; omega) (by omega)).trans K5.out.1;have VW : Hid (VBox wr (w.heap.size + 1) vm0):=(HK.out.2 _ (by have:=GA.out.2.2.1; omega) (by omega)).trans K5.out.2;obtain ⟨A,c,ev,-⟩:=HO.out.wds;rw [newW_len] at ev;subst ev;obtain ⟨c0,c1,c2,c3,c4⟩:=CW.out.use;clear hil hi K5 CL;rw [show ((167 : Nat) : Int) = 167 from rfl];(go_wp2_with (refine wpList_store_row rfl 37 _ _ rfl (w.heap.size + 1) (vmC (newK L d r v o g A c)) rfl rfl _ _ VW.out (by kernel_rfl) rfl (vm_one _) ?_));refine bodyPost_ret (res_ct rfl _ _ _ _ rfl (vrow VW.out (newK L d r v o g A c))) rfl ?_;have hbs : Below w.heap.size w (wr.setRow (w.heap.size + 1) (vmC (newK L d r v o g A c))):=below_setRow HB.out (by omega) _;have hW : WOwns (wr.setRow (w.heap.size + 1) (vmC (newK L d r v o g A c))) w5.heap.size (.slice A 167 c) 167 (newW 167):=World.ownsRow.kept HO.out (grownBy_setRow wr _ _) (.inr fun e => by have:=(HO.out.lt _ e).1; have:=GA.out.2.2.1; omega);have hR : Bw (wr.setRow (w.heap.size + 1) (vmC (newK L d r v o g A c))) g (rowN L 167):=(setRow_other wr _ _ _ (by omega)).trans HR.out;have hY:=hR.byt (by rw [rowN_len]; exact hL2);rw [rowN_len] at hY;exact ⟨g,A,c,rfl,⟨mem_mk hY (pats_nil _),row_nil _,row_nil _,rws_nil _ _,hW.wds,byt_nil _,byt_nil _,rws_nil _ _,rws_nil _ _⟩,hbs⟩
end Go.Proofs.YtcmldhjicjmmgaaGreatDoor
