/- Part 9. -/
import Derived.Test.YtcmldhjicjmmgaaGreatDoorXkAH
import Derived.Maps.Own
import Derived.Maps.Views
import Derived.Shelf.SlicesQ.Equal
import Derived.Laws.StructEq
import Derived.ArgAppend
set_option linter.unusedVariables false
set_option linter.unusedSimpArgs false
set_option maxRecDepth 100000
set_option maxHeartbeats 4000000

namespace Go.Proofs.YtcmldhjicjmmgaaGreatDoor
open Go.RowKit


theorem rnew_no (m d r v o : Int) (w : World) (hfit : fitsB m d r v o = false) :
    Calls Tryz.prog 19 #[.agg #[.int .i64 m,.int .i64 d,.int .i64 r,.int .i64 v,.int .i64 o]] w fun e w' => e = .returned (.tuple #[vmV vm0,.int .i64 (-24)]) ∧ Below w.heap.size w w':=by
  have HF:=zqh (rfits_any m d r v o);rw [hfit] at HF;obtain ⟨k0,k1,k2⟩:=cv_new w m d r v o vm0 _ rfl;have B0:=zqh k0;have X0:=zqh k2;clear k0 k1 k2 hfit;go_enter Tryz.func19,Tryz.ntmps19;(go_wp2_with fail);refine (HF.out _).mono ?_;rintro e w1 ⟨rfl,bb⟩;have B1:=zqh (below_then B0.out bb);have X1:=zqh (X0.out.keep bb);clear bb B0 X0 HF;(go_wp2_with (refine wpList_store_row rfl 37 _ _ rfl (w.heap.size + 1) (vmC vm0) rfl rfl _ _ X1.out (by kernel_rfl) rfl (vm_one _) ?_));refine bodyPost_ret (res_ct rfl _ _ _ _ rfl (vrow X1.out vm0)) rfl ?_;exact ⟨rfl,below_setRow B1.out (by omega) _⟩
def NewOut (m d r v o : Int) (w : World) (e : Ending) (w' : World) : Prop :=
  (fitsB m d r v o = true → ∃ (L : Nat) (g : Nat) (A : Option Addr) (c : Nat),m = (L : Int) ∧ e = .returned (.tuple #[vmV (newK L d r v o g A c),.int .i64 0]) ∧ IsVm w' (newK L d r v o g A c) (newL L)) ∧
  (fitsB m d r v o = false → e = .returned (.tuple #[vmV vm0,.int .i64 (-24)])) ∧ Below w.heap.size w w'
theorem rnew_any (m d r v o : Int) (w : World) : Calls Tryz.prog 19 #[.agg #[.int .i64 m,.int .i64 d,.int .i64 r,.int .i64 v,.int .i64 o]] w (NewOut m d r v o w):=by
  cases h : fitsB m d r v o with
  | false =>
    refine (rnew_no m d r v o w h).mono ?_;rintro e w1 ⟨rfl,b⟩;exact ⟨fun e => absurd (h.symm.trans e) (by decide),fun _ => rfl,b⟩
  | true =>
    have hf:=(fits_iff m d r v o).1 h;obtain ⟨L,rfl⟩ : ∃ L : Nat,m = (L : Int):=⟨m.toNat,by omega⟩;refine (rnew_yes L d r v o w h (by omega) (by omega)).mono ?_;rintro e w1 ⟨g,A,c,rfl,hv,b⟩;exact ⟨fun _ => ⟨L,g,A,c,rfl,rfl,hv⟩,fun e => absurd (h.symm.trans e) (by decide),b⟩


theorem wpList_vload {ops : Array Oper} {rest : List Oper} {o : Oper} {a : Act} {Q : Exit → Act → World → Prop} {w : World} (hw : Region.wanted o (yielded ops a.tmps) = true) (x : Operand) (ho : o.op = .load 37 x)
    (b : Nat) (k : VmK) (hx : a.eval x = .pointer (some ⟨b,0,none⟩)) (hb : VBox w b k) (h : wpList Tryz.prog ops Q rest (a.put o.dst (vmV k)) w) : wpList Tryz.prog ops Q (o :: rest) a w :=
  wpList_step fun K hK => by
    rw [if_pos hw];exact wp_load_row 37 x ho b hx _ _ _ _ hb Tryz.underlying37 rfl vm_info (hK _ _ h)


def confSame (k j : VmK) : Bool:=decide (k.cm = j.cm ∧ k.cd = j.cd ∧ k.cr = j.cr ∧ k.cw = j.cw ∧ k.co = j.co)
def numsSame (k j : VmK) : Bool:=decide (k.here = j.here ∧ k.last = j.last ∧ k.free = j.free ∧ k.next = j.next ∧ k.arg = j.arg ∧ k.self = j.self ∧ k.now = j.now)
def vSame (k : VmK) (L : VmL) (j : VmK) (M : VmL) : Bool:=decide (L.m = M.m) && (sameB L.d M.d && (sameB L.r M.r && (fmSame L.f M.f && (dSame L.dict M.dict && (pSame k.qo L.q j.qo M.q && (rqSame L.e M.e && (hnSame L.h M.h && (confSame k j && (decide (L.o = M.o) && (numsSame k j))))))))))
def V2 (w : World) (b : Nat) (k j : VmK) : Prop:=VBox w b k ∧ VBox w (b + 1) j
theorem v2_new (w : World) (k j : VmK) : Below w.heap.size w ((w.alloc (.cells #[.int .i64 k.cm,.int .i64 k.cd,.int .i64 k.cr,.int .i64 k.cw,.int .i64 k.co,.slice k.mA k.mn k.mc,.slice k.pA k.pn k.pc,.int .i64 k.here,.slice k.dA k.dn k.dc,.slice k.rA k.rn k.rc,.slice k.fA k.fn k.fc,.slice k.wA k.wn k.wc,.int .i64 k.last,.slice k.oA k.on k.oc,.slice k.qA k.qn k.qc,.bool k.qo,.slice k.eA k.en k.ec,.int .i64 k.free,.int .i64 k.next,.int .i64 k.arg,.int .i64 k.self,.int .i64 k.now,.slice k.hA k.hn k.hc] 37)).alloc (.cells #[.int .i64 j.cm,.int .i64 j.cd,.int .i64 j.cr,.int .i64 j.cw,.int .i64 j.co,.slice j.mA j.mn j.mc,.slice j.pA j.pn j.pc,.int .i64 j.here,.slice j.dA j.dn j.dc,.slice j.rA j.rn j.rc,.slice j.fA j.fn j.fc,.slice j.wA j.wn j.wc,.int .i64 j.last,.slice j.oA j.on j.oc,.slice j.qA j.qn j.qc,.bool j.qo,.slice j.eA j.en j.ec,.int .i64 j.free,.int .i64 j.next,.int .i64 j.arg,.int .i64 j.self,.int .i64 j.now,.slice j.hA j.hn j.hc] 37)) ∧ VBox ((w.alloc (.cells #[.int .i64 k.cm,.int .i64 k.cd,.int .i64 k.cr,.int .i64 k.cw,.int .i64 k.co,.slice k.mA k.mn k.mc,.slice k.pA k.pn k.pc,.int .i64 k.here,.slice k.dA k.dn k.dc,.slice k.rA k.rn k.rc,.slice k.fA k.fn k.fc,.slice k.wA k.wn k.wc,.int .i64 k.last,.slice k.oA k.on k.oc,.slice k.qA k.qn k.qc,.bool k.qo,.slice k.eA k.en k.ec,.int .i64 k.free,.int .i64 k.next,.int .i64 k.arg,.int .i64 k.self,.int .i64 k.now,.slice k.hA k.hn k.hc] 37)).alloc (.cells #[.int .i64 j.cm,.int .i64 j.cd,.int .i64 j.cr,.int .i64 j.cw,.int .i64 j.co,.slice j.mA j.mn j.mc,.slice j.pA j.pn j.pc,.int .i64 j.here,.slice j.dA j.dn j.dc,.slice j.rA j.rn j.rc,.slice j.fA j.fn j.fc,.slice j.wA j.wn j.wc,.int .i64 j.last,.slice j.oA j.on j.oc,.slice j.qA j.qn j.qc,.bool j.qo,.slice j.eA j.en j.ec,.int .i64 j.free,.int .i64 j.next,.int .i64 j.arg,.int .i64 j.self,.int .i64 j.now,.slice j.hA j.hn j.hc] 37)) w.heap.size k ∧ VBox ((w.alloc (.cells #[.int .i64 k.cm,.int .i64 k.cd,.int .i64 k.cr,.int .i64 k.cw,.int .i64 k.co,.slice k.mA k.mn k.mc,.slice k.pA k.pn k.pc,.int .i64 k.here,.slice k.dA k.dn k.dc,.slice k.rA k.rn k.rc,.slice k.fA k.fn k.fc,.slice k.wA k.wn k.wc,.int .i64 k.last,.slice k.oA k.on k.oc,.slice k.qA k.qn k.qc,.bool k.qo,.slice k.eA k.en k.ec,.int .i64 k.free,.int .i64 k.next,.int .i64 k.arg,.int .i64 k.self,.int .i64 k.now,.slice k.hA k.hn k.hc] 37)).alloc (.cells #[.int .i64 j.cm,.int .i64 j.cd,.int .i64 j.cr,.int .i64 j.cw,.int .i64 j.co,.slice j.mA j.mn j.mc,.slice j.pA j.pn j.pc,.int .i64 j.here,.slice j.dA j.dn j.dc,.slice j.rA j.rn j.rc,.slice j.fA j.fn j.fc,.slice j.wA j.wn j.wc,.int .i64 j.last,.slice j.oA j.on j.oc,.slice j.qA j.qn j.qc,.bool j.qo,.slice j.eA j.en j.ec,.int .i64 j.free,.int .i64 j.next,.int .i64 j.arg,.int .i64 j.self,.int .i64 j.now,.slice j.hA j.hn j.hc] 37)) (w.heap.size + 1) j:=by
  refine ⟨((Below.refl _ _).alloc (Nat.le_refl _) _).alloc (by simp) _,?_,?_⟩
  · exact (vbox_new w k).keep ((Below.refl _ _).alloc (Nat.le_refl _) _)
  · have:=vbox_new (w.alloc (.cells #[.int .i64 k.cm,.int .i64 k.cd,.int .i64 k.cr,.int .i64 k.cw,.int .i64 k.co,.slice k.mA k.mn k.mc,.slice k.pA k.pn k.pc,.int .i64 k.here,.slice k.dA k.dn k.dc,.slice k.rA k.rn k.rc,.slice k.fA k.fn k.fc,.slice k.wA k.wn k.wc,.int .i64 k.last,.slice k.oA k.on k.oc,.slice k.qA k.qn k.qc,.bool k.qo,.slice k.eA k.en k.ec,.int .i64 k.free,.int .i64 k.next,.int .i64 k.arg,.int .i64 k.self,.int .i64 k.now,.slice k.hA k.hn k.hc] 37)) j
    rw [World.size_alloc] at this;exact this


def rpushC (l : List Int) (limit : Int) : Int:=if limit ≤ (l.length : Int) then -5 else 0
def rpopC (l : List Int) : Int:=if l.length = 0 then -6 else 0


def printC (l s : List UInt8) (co : Int) : Int:=if co - (l.length : Int) < (s.length : Int) then -260 else 0
def printL (l s : List UInt8) (co : Int) : List UInt8:=if co - (l.length : Int) < (s.length : Int) then l else l ++ s


def codeB (n : Int) : Bool:=decide ((0 ≤ n ∧ n < 130) ∨ (256 ≤ n ∧ n ≤ 260) ∨ (300 ≤ n ∧ n < 337))
def kindV (m : PM) (L : Nat) (p : Int) : Int:=if cellC L p = 0 ∧ codeB (fetchF m p) = true then fetchF m p else 0
def kindC (m : PM) (L : Nat) (p : Int) : Int:=if cellC L p = 0 then (if codeB (fetchF m p) = true then 0 else -9) else cellC L p


structure Sc (k j : VmK) : Prop where
  cm : k.cm = j.cm
  cd : k.cd = j.cd
  cr : k.cr = j.cr
  cw : k.cw = j.cw
  co : k.co = j.co
  here : k.here = j.here
  last : k.last = j.last
  qo : k.qo = j.qo
  free : k.free = j.free
  next : k.next = j.next
  arg : k.arg = j.arg
  self : k.self = j.self
  now : k.now = j.now
theorem Sc.refl (k : VmK) : Sc k k:=⟨rfl,rfl,rfl,rfl,rfl,rfl,rfl,rfl,rfl,rfl,rfl,rfl,rfl⟩
theorem Sc.symm {k j : VmK} (h : Sc k j) : Sc j k:=⟨h.cm.symm,h.cd.symm,h.cr.symm,h.cw.symm,h.co.symm,h.here.symm,h.last.symm,h.qo.symm,h.free.symm,h.next.symm,h.arg.symm,h.self.symm,h.now.symm⟩
theorem Sc.trans {k j i : VmK} (h : Sc k j) (g : Sc j i) : Sc k i:=⟨h.cm.trans g.cm,h.cd.trans g.cd,h.cr.trans g.cr,h.cw.trans g.cw,h.co.trans g.co,h.here.trans g.here,h.last.trans g.last,h.qo.trans g.qo,h.free.trans g.free,h.next.trans g.next,h.arg.trans g.arg,h.self.trans g.self,h.now.trans g.now⟩
theorem same_self {k j : VmK} (h : Sc k j) (L : VmL) : vSame k L j L = true:=by
  have h1 : confSame k j = true:=by unfold confSame; rw [decide_eq_true_eq]; exact ⟨h.cm,h.cd,h.cr,h.cw,h.co⟩
  have h2 : numsSame k j = true:=by unfold numsSame; rw [decide_eq_true_eq]; exact ⟨h.here,h.last,h.free,h.next,h.arg,h.self,h.now⟩
  unfold vSame;rw [h1,h2,fm_self,rq_self,hn_self,h.qo];simp [sameB,dSame,pSame]
def pushV (k : VmK) (L : VmL) (x : Int) : VmL:={ L with d:=pushL L.d x k.cd }
def popV (L : VmL) : VmL:={ L with d:=popL L.d }
def rpushV (k : VmK) (L : VmL) (x : Int) : VmL:={ L with r:=pushL L.r x k.cr }
def rpopV (L : VmL) : VmL:={ L with r:=popL L.r }
def printV (k : VmK) (L : VmL) (s : List UInt8) : VmL:={ L with o:=printL L.o s k.co }
end Go.Proofs.YtcmldhjicjmmgaaGreatDoor

namespace Go.Proofs
open Go.Shelf
def Tryz.growi_ren : Go.Shelf.Ren:=⟨fun | 4 => 283 | n => n,fun | 0 => 0 | 3 => 3 | 4 => 4 | 9 => 9 | 20 => 20 | 22 => 22 | 25 => 3 | n => n,fun | n => n⟩
theorem Tryz.growi_lays : Go.Proofs.Lays8.n4 Tryz.prog Tryz.growi_ren:={
  mixed:=by kernel_rfl
  f4 := ⟨"slices.Grow[[]int,int]", by decide, Tryz.func283.trans (congrArg some (by kernel_rfl))⟩
  t0:=Tryz.underlying0
  a0:=Tryz.isAgg0
  z0:=Tryz.sizeOf0
  v0:=Tryz.zeroValue0
  t3:=Tryz.underlying3
  a3:=Tryz.isAgg3
  z3:=Tryz.sizeOf3
  v3:=Tryz.zeroValue3
  t4:=Tryz.underlying4
  a4:=Tryz.isAgg4
  z4:=Tryz.sizeOf4
  v4:=Tryz.zeroValue4
  t9:=Tryz.underlying9
  a9:=Tryz.isAgg9
  z9:=Tryz.sizeOf9
  v9:=Tryz.zeroValue9
  t20:=Tryz.underlying20
  a20:=Tryz.isAgg20
  z20:=Tryz.sizeOf20
  v20:=Tryz.zeroValue20
  t22:=Tryz.underlying22
  a22:=Tryz.isAgg22
  z22:=Tryz.sizeOf22
  v22:=Tryz.zeroValue22 }
end Go.Proofs
namespace Go.Proofs.YtcmldhjicjmmgaaGreatDoor
open Go.RowKit Go.Lib Go.Shelf


theorem igrow_any (n : Nat) (w : World) (hn : n ≤ 200000) : Calls Tryz.prog 283 #[.slice none 0 0,.int .i64 (n : Int)] w fun e w' => ∃ v,e = .returned v ∧ Owns w' w.heap.size v 0 [] ∧ Below w.heap.size w w':=by
  by_cases h0 : n = 0
  · subst h0
    refine (Any8.slices_Grow_room Tryz.growi_lays none 0 0 0 w (Nat.le_refl _) (by decide) (by decide) (by decide)).mono ?_;rintro e w1 ⟨rfl,rfl⟩;exact ⟨_,rfl,⟨rfl,.inl ⟨rfl,rfl⟩⟩,Below.refl _ _⟩
  · obtain ⟨i0,hi,hz0,hz1,hz2⟩:=info_parts info_int
    have h:=Any8.slices_Grow_grow Tryz.growi_lays i0 _ hi hz0 (by rw [hz1]; decide) none 0 0 n [] w (Nat.le_refl _) (by omega) (by rw [hz2]; omega) (by omega) (by simp) (fun _ => rfl) (fun a e => by cases e);refine h.mono ?_;rintro e w1 ⟨rfl,rfl⟩;refine ⟨_,rfl,⟨rfl,.inr ⟨w.heap.size,_,_,rfl,Nat.le_refl _,one_newN w.drew _ _,Nat.zero_le _,grownCap_le_maxLen _ _ _ _ (by unfold maxLen; omega),?_,by simp [ints]⟩⟩,?_⟩
    · have hge:=grownCap_ge w (0 + n) 0 (Tryz.growi_ren.t 25)
      obtain ⟨G,hG⟩ : ∃ G,grownCap w (0 + n) 0 (Tryz.growi_ren.t 25) = G:=⟨_,rfl⟩;rw [hG] at hge ⊢;simp [Builtin.zeroCells,Value.cells];omega
    · exact (⟨rfl,rfl,rfl,Nat.le_refl _,fun _ _ => rfl⟩ : Below w.heap.size w w.drew).alloc (Nat.le_refl _) _
theorem icat_any (A A' : Option Addr) (n c n' c' : Nat) (l l' : List Int) (g : Nat) (w : World) (H0 : w.cell? ⟨g,0,none⟩ = some (.slice A n c)) (H1 : w.cell? ⟨g,1,none⟩ = some (.slice A' n' c'))
    (h : Row w A n c l) (h' : Row w A' n' c' l') (hl : l.length ≤ 100000) (hl' : l'.length ≤ 100000) :
    Calls Tryz.prog 251 #[.slice (some ⟨g,0,none⟩) 2 2] w fun e w' => ∃ v,e = .returned v ∧ Owns w' w.heap.size v (l ++ l').length (l ++ l') ∧ Below w.heap.size w w':=by
  have e1:=h.1;have e2:=h'.1;subst e1 e2;have X:=zqh h;have Y:=zqh h';have hs : IntKind.i64.wrap ((l.length : Int) + (l'.length : Int)) = ((l.length + l'.length : Nat) : Int):=by
    rw [IntWalk.i64_in _ ⟨by omega,by omega⟩];simp
  have hp : decide (((l.length + l'.length : Nat) : Int) < 0) = false:=by simp; omega
  have hp0 : decide ((l.length : Int) < 0) = false:=by simp
  have HG:=zqh (igrow_any (l.length + l'.length) w (by omega));clear h h';go_enter Tryz.func251,Tryz.ntmps251;(go_wp2_with fail);refine wp_loop_rounds 3 ?_
  iterate 3 (rw [rounds_succ]; go_wp2_with fail)
  refine HG.out.mono ?_;rintro e w1 ⟨v0,rfl,o0,b0⟩;have O0:=zqh o0;have B0:=zqh b0;have K0 : w1.cell? ⟨g,0,none⟩ = some (.slice A l.length c):=(b0.cell (p:=⟨g,0,none⟩) (World.block_lt_of_cell? _ _ H0)).trans H0;have X1:=zqh (X.out.keep b0);have HS:=zqh b0.size;have HH:=zqh H1;clear o0 b0 H0 H1 X HG;(go_wp2_with fail);refine wp_loop_rounds 3 ?_;rw [rounds_succ];(go_wp2_with (at_builtin; (refine wpList_app rfl _ _ rfl w.heap.size v0 0 [] rfl O0.out A l.length c l rfl X1.out (by omega) HS.out w B0.out (Nat.le_refl _) ?_; intro v1 w2 o1 b1)));have O1:=zqh o1;have B1:=zqh b1;have K1 : w2.cell? ⟨g,1,none⟩ = some (.slice A' l'.length c'):=(b1.cell (p:=⟨g,1,none⟩) (World.block_lt_of_cell? _ _ HH.out)).trans HH.out;have Y1:=zqh (Y.out.keep b1);have HS1:=zqh b1.size;clear o1 b1 K0 X1 O0 B0 HS;rw [rounds_succ];(go_wp2_with (at_builtin; (refine wpList_app rfl _ _ rfl w.heap.size v1 (0 + l.length) ([] ++ l) rfl O1.out A' l'.length c' l' rfl Y1.out (by omega) HS1.out w B1.out (Nat.le_refl _) ?_; intro v2 w3 o2 b2)));have O2:=zqh o2;have B2:=zqh b2;clear o2 b2 K1 Y1 O1 B1 HS1;rw [rounds_succ];(go_wp2_with fail);go_ret;refine ⟨v2,rfl,?_,B2.out⟩;have:=O2.out;rw [Nat.zero_add,List.nil_append,← List.length_append] at this;exact this
open Go.RowKit


theorem isfrom_any (n a b : Int) (w : World) : Calls Tryz.prog 90 #[.int .i64 n,.int .i64 a,.int .i64 b] w fun e w' => e = .returned (.bool (decide (a ≤ n ∧ n ≤ b))) ∧ w = w':=by
  go_enter Tryz.func90,Tryz.ntmps90;go_wp2
  all_goals go_ret
  all_goals refine ⟨ret_bool ?_,rfl⟩
  all_goals (rw [Bool.eq_iff_iff]; simp only [decide_eq_true_eq,Bool.and_eq_true,Bool.or_eq_true,Bool.false_eq_true,true_iff,false_iff,iff_true,iff_false]; omega)
theorem iskind_any (n : Int) (w : World) : Calls Tryz.prog 74 #[.int .i64 n] w fun e w' => e = .returned (.bool (codeB n)) ∧ w = w':=by
  obtain ⟨F,hF⟩ : ∃ F,codeB n = F:=⟨_,rfl⟩;have HF:=zqh hF;rw [hF];clear hF;go_enter Tryz.func74,Tryz.ntmps74;(go_wp2_with (go_at_call 90; refine (isfrom_any _ _ _ _).mono ?_; rintro e w' ⟨rfl,rfl⟩))
  all_goals go_ret
  all_goals refine ⟨ret_bool ?_,rfl⟩
  all_goals rw [← HF.out]
  all_goals unfold codeB
  all_goals (rw [Bool.eq_iff_iff]; simp only [decide_eq_true_eq,Bool.and_eq_true,Bool.or_eq_true,Bool.false_eq_true,true_iff,false_iff,iff_true,iff_false]; omega)
theorem vkind_any (k : VmK) (m : PM) (p : Int) (w : World) (HM : Hid (IsMem w (.agg #[.slice k.mA k.mn k.mc,.slice k.pA k.pn k.pc]) m)) (hL : k.mn ≤ 65536) :
    Calls Tryz.prog 58 #[vmV k,.int .i64 p] w fun e w' => e = .returned (.tuple #[.int .i64 (kindV m k.mn p),.int .i64 (kindC m k.mn p)]) ∧ Below w.heap.size w w':=by
  have kk:=al_one w (.cells #[.int .i64 k.cm,.int .i64 k.cd,.int .i64 k.cr,.int .i64 k.cw,.int .i64 k.co,.slice k.mA k.mn k.mc,.slice k.pA k.pn k.pc,.int .i64 k.here,.slice k.dA k.dn k.dc,.slice k.rA k.rn k.rc,.slice k.fA k.fn k.fc,.slice k.wA k.wn k.wc,.int .i64 k.last,.slice k.oA k.on k.oc,.slice k.qA k.qn k.qc,.bool k.qo,.slice k.eA k.en k.ec,.int .i64 k.free,.int .i64 k.next,.int .i64 k.arg,.int .i64 k.self,.int .i64 k.now,.slice k.hA k.hn k.hc] 37);have HB:=zqh kk;have HC:=zqh (fetch_at k.mA k.pA k.mn k.mc k.pn k.pc m p _ (zqh (HM.out.keep kk)) hL);clear kk;obtain ⟨V,hV⟩ : ∃ V,kindV m k.mn p = V:=⟨_,rfl⟩;obtain ⟨E,hE⟩ : ∃ E,kindC m k.mn p = E:=⟨_,rfl⟩;have HV : Hid (V = kindV m k.mn p):=hV.symm;have HE : Hid (E = kindC m k.mn p):=hE.symm;rw [hV,hE];clear hV hE;unfold kindV at HV;unfold kindC at HE;obtain ⟨C,hC⟩ : ∃ C,cellC k.mn p = C:=⟨_,rfl⟩;obtain ⟨F,hF⟩ : ∃ F,fetchF m p = F:=⟨_,rfl⟩;rw [hC,hF] at HC HV HE;clear hC hF HM
  by_cases h0 : C = 0
  · subst h0
    obtain ⟨b,hb⟩ : ∃ b,codeB F = b:=⟨_,rfl⟩;have Hb:=zqh hb;clear hb;go_enter Tryz.func58,Tryz.ntmps58;(go_wp2_with fail);refine HC.out.mono ?_;rintro e w1 ⟨rfl,bb⟩;have HB1:=zqh (below_then HB.out bb);have HK:=zqh (iskind_any F w1);rw [Hb.out] at HK;clear bb HC;cases b with
    | true =>
      have H1 : Hid (V = F):=by show _ = _; rw [HV.out,Hb.out]; rfl
      have H2 : Hid (E = 0):=by show _ = _; rw [HE.out,Hb.out]; rfl
      clear HV HE;(go_wp2_with (go_at_call 74; refine HK.out.mono ?_; rintro e w' ⟨rfl,rfl⟩));go_ret2;exact ⟨by rw [H1.out,H2.out]; rfl,HB1.out⟩
    | false =>
      have H1 : Hid (V = 0):=by show _ = _; rw [HV.out,Hb.out]; rfl
      have H2 : Hid (E = -9):=by show _ = _; rw [HE.out,Hb.out]; rfl
      clear HV HE;(go_wp2_with (go_at_call 74; refine HK.out.mono ?_; rintro e w' ⟨rfl,rfl⟩));go_ret2;exact ⟨by rw [H1.out,H2.out]; rfl,HB1.out⟩
  · have H1 : Hid (V = 0):=by show _ = _; rw [HV.out,if_neg (fun h => h0 h.1)]
    have H2 : Hid (E = C):=by show _ = _; rw [HE.out,if_neg h0]
    have hz : (C == 0) = false:=by simpa using h0
    clear HV HE;go_enter Tryz.func58,Tryz.ntmps58;(go_wp2_with fail);refine HC.out.mono ?_;rintro e w1 ⟨rfl,bb⟩;have HB1:=zqh (below_then HB.out bb);clear bb HC;(go_wp2_with fail);go_ret2;exact ⟨by rw [H1.out,H2.out]; rfl,HB1.out⟩
def primT : List UInt8:=[10,40,101,120,105,116,41,32,40,108,105,116,41,32,40,98,114,97,110,99,104,41,32,40,48,98,114,97,110,99,104,41,32,40,100,111,41,32,40,63,100,111,41,32,40,108,111,111,112,41,32,40,43,108,111,111,112,41,32,40,104,97,108,116,41,32,40,99,97,117,103,104,116,41,10,40,100,111,101,115,41,32,40,115,116,114,41,32,69,88,69,67,85,84,69,32,67,65,84,67,72,32,84,72,82,79,87,32,73,32,74,32,85,78,76,79,79,80,32,62,82,32,82,62,10,82,64,32,50,62,82,32,50,82,62,32,68,85,80,32,68,82,79,80,32,83,87,65,80,32,79,86,69,82,32,82,79,84,32,45,82,79,84,32,78,73,80,10,84,85,67,75,32,63,68,85,80,32,50,68,85,80,32,50,68,82,79,80,32,50,83,87,65,80,32,50,79,86,69,82,32,80,73,67,75,32,82,79,76,76,32,68,69,80,84,72,32,43,10,45,32,42,32,47,32,77,79,68,32,65,78,68,32,79,82,32,88,79,82,32,76,83,72,73,70,84,32,82,83,72,73,70,84,32,77,73,78,10,77,65,88,32,61,32,60,62,32,60,32,62,32,60,61,32,62,61,32,85,60,32,85,62,32,78,69,71,65,84,69,10,65,66,83,32,73,78,86,69,82,84,32,49,43,32,49,45,32,50,42,32,50,47,32,48,61,32,48,60,32,48,60,62,32,48,62,10,67,69,76,76,83,32,67,69,76,76,43,32,65,76,73,71,78,69,68,32,47,77,79,68,32,42,47,32,42,47,77,79,68,32,85,77,42,32,85,77,47,77,79,68,32,77,42,32,83,77,47,82,69,77,10,70,77,47,77,79,68,32,83,62,68,32,87,73,84,72,73,78,32,64,32,33,32,43,33,32,67,64,32,67,33,32,50,64,32,50,33,10,70,73,76,76,32,77,79,86,69,32,67,79,85,78,84,32,72,69,82,69,32,65,76,76,79,84,32,44,32,67,44,32,65,76,73,71,78,32,66,65,83,69,32,83,84,65,84,69,10,84,82,85,69,32,70,65,76,83,69,32,66,76,32,68,69,67,73,77,65,76,32,72,69,88,32,69,77,73,84,32,67,82,32,83,80,65,67,69,32,83,80,65,67,69,83,32,84,89,80,69,10,46,32,85,46,32,60,35,32,35,32,35,83,32,72,79,76,68,32,83,73,71,78,32,35,62,32,62,66,79,68,89,32,65,66,79,82,84,10,80,79,83,84,32,65,70,84,69,82,32,69,86,69,82,89,32,67,65,78,67,69,76,32,65,82,71,32,83,69,76,70,32,78,79,87,32,83,69,84,45,83,84,65,84,69,32,65,84,45,83,84,65,84,69,32,71,69,84,45,83,84,65,84,69,10]
theorem prim_fields : Lib.fields primT = primL:=by kernel_rfl
theorem names_any (w : World) (HT : Tab w) : Calls Tryz.prog 75 #[] w fun e w' => e = .returned (.slice (some ⟨w.heap.size,0,none⟩) 130 130) ∧ Sts w' (.slice (some ⟨w.heap.size,0,none⟩) 130 130) primL ∧ Below w.heap.size w w':=by
  have HC:=zqh (fields_any primT w (by rw [show primT.length = 623 from by kernel_rfl]; decide) (by kernel_rfl) HT primL prim_fields);clear HT;go_enter Tryz.func75,Tryz.ntmps75;(go_wp2_with fail);refine HC.out.mono ?_;rintro e w1 ⟨rfl,rfl⟩;(go_wp2_with fail);go_ret;exact ⟨rfl,sts_block (l:=primL) (one_newN w _ _) (by decide),al_one _ _⟩
open Go.RowKit Go.Maps Go.WideMaps


def MapF (w : World) (b n : Nat) (D : DataW Unit) (f : List UInt8 → Int) : Prop:=w.ownsMap Tryz.prog 9 (plainElem Tryz.prog 3) b n D ∧ IsMap D ∧ ∀ s,D.atKey (.string s) (.lit (.int .i64 0)) = .lit (.int .i64 (f s))
theorem MapF.kept {w w' : World} {b n : Nat} {D : DataW Unit} {f : List UInt8 → Int} (h : MapF w b n D f) (x : Below w.heap.size w w') : MapF w' b n D f :=
  ⟨h.1.kept (row:=none) ⟨x.os,x.tape,x.output,x.size,fun k hk _ => x.block k hk⟩ (by simp),h.2⟩
theorem Tab.grown {w w' : World} {b n : Nat} {D : DataW Unit} {f : List UInt8 → Int} (h : Tab w) (hm : MapF w b n D f) (g : w.grownBy w' (some b)) : Tab w':=fun c hc => by
  refine g.cell (h c hc) ?_;show some 2 ≠ some b;intro e;injection e with e
  have hx:=h c hc;obtain ⟨es,clock,hb,_⟩:=hm.1;rw [← e] at hb;unfold World.cell? at hx;rw [hb] at hx;cases hx


def HdAt (w : World) (b : Nat) (r : List UInt8) (q : Nat) (w1 : World) : Prop:=∃ A P L c K d m,At b A P L c K d m w1 ∧ m.1 = r ∧ m.2.length ≤ q ∧ r.length = 1368 ∧ w.heap.size ≤ b ∧ Below w.heap.size w w1
theorem HdAt.keep {w W W' : World} {b q : Nat} {r : List UInt8} (h : HdAt w b r q W) (x : Below W.heap.size W W') : HdAt w b r q W':=by
  obtain ⟨A,P,L,c,K,d,m,h1,h2,h3,h4,h5,h6⟩:=h;exact ⟨A,P,L,c,K,d,m,h1.keep x,h2,h3,h4,h5,below_then h6 x⟩


theorem WOwns.block {w : World} {base n : Nat} {v : Value} {l : List Wr} (h : WOwns w base v n l) (hn : 0 < n) : ∃ g cap,v = .slice (some ⟨g,0,none⟩) n cap ∧ base ≤ g ∧ g < w.heap.size ∧ ∀ k,k < n → (∃ x,w.cell? ⟨g,k * 3 + 2,none⟩ = some x) ∧ w.frozen? ⟨g,k * 3 + 2,none⟩ = false:=by
  rcases h.2 with ⟨_,h0⟩ | ⟨g,cap,cur,e,hb,hg,hnc,hcm,hcs,ht⟩
  · omega
  · refine ⟨g,cap,e,hb,(Array.getElem?_eq_some_iff.1 hg).1,fun k hk => ?_⟩
    have hks : k * 3 + 2 < cur.size:=by omega
    refine ⟨⟨cur[k * 3 + 2],by simp [World.cell?,hg,hks]⟩,by simp [World.frozen?,hg]⟩


def Tn (w : World) (p q r : Addr) : Prop:=w.cell? p = some (.int .u8 97) ∧ w.cell? q = some (.int .u8 122) ∧ w.cell? r = some (.int .u8 65)
def TnB (w : World) (p q r : Nat) : Prop:=Tn w ⟨p,0,none⟩ ⟨q,0,none⟩ ⟨r,0,none⟩ ∧ p < w.heap.size ∧ q < w.heap.size ∧ r < w.heap.size
theorem TnB.keep {w w' : World} {p q r : Nat} (h : TnB w p q r) (b : Below w.heap.size w w') : TnB w' p q r:=by
  obtain ⟨⟨h1,h2,h3⟩,h4,h5,h6⟩:=h;have hz:=b.size;exact ⟨⟨(b.cell (p:=⟨p,0,none⟩) h4).trans h1,(b.cell (p:=⟨q,0,none⟩) h5).trans h2,(b.cell (p:=⟨r,0,none⟩) h6).trans h3⟩,by omega,by omega,by omega⟩
def Rw (w : World) (g C : Nat) (l : List UInt8) : Prop:=∃ X : Array Value,w.heap[g]? = some (.cells ((u8s l).toArray ++ X) 5 (C,C + 1)) ∧ l.length ≤ C ∧ C ≤ maxLen
theorem Rw.lt {w : World} {g C : Nat} {l : List UInt8} (h : Rw w g C l) : g < w.heap.size:=by
  obtain ⟨X,h1,_⟩:=h;exact (Array.getElem?_eq_some_iff.1 h1).1
theorem Rw.use {w : World} {g C : Nat} {l : List UInt8} (h : Rw w g C l) {k : Nat} {c : UInt8} (hk : l[k]? = some c) : w.cell? ⟨g,k,none⟩ = some (.int .u8 (c.toNat : Int)) ∧ w.frozen? ⟨g,k,none⟩ = false:=by
  obtain ⟨X,h1,h2,h3⟩:=h;have hkl:=(List.getElem?_eq_some_iff.1 hk).1;have e : ((u8s l).toArray ++ X)[k]? = some (.int .u8 (c.toNat : Int)):=by
    rw [Array.getElem?_append_left (by simpa [u8s] using hkl)];simp [u8s,hk]
  refine ⟨by simp [World.cell?,h1,e],?_⟩;simp [World.frozen?,h1];omega
theorem Rw.keep {w w' : World} {g C : Nat} {l : List UInt8} (h : Rw w g C l) (b : Below w.heap.size w w') : Rw w' g C l:=by
  have hl:=h.lt;obtain ⟨X,h1,h2⟩:=h;exact ⟨X,(b.block g hl).trans h1,h2⟩
theorem Rw.set {w : World} {g C : Nat} {l : List UInt8} (h : Rw w g C l) {k : Nat} (hk : k < l.length) (c : UInt8) : Rw (w.setCell ⟨g,k,none⟩ (.int .u8 (c.toNat : Int))) g C (l.set k c):=by
  obtain ⟨X,h1,h2,h3⟩:=h;obtain ⟨hlt,hc⟩:=Array.getElem?_eq_some_iff.1 h1;refine ⟨X,?_,by rw [List.length_set]; exact h2,h3⟩;show (w.heap.modify g _)[g]? = _;rw [Array.getElem?_eq_getElem (by rw [Array.size_modify]; exact hlt),Array.getElem_modify_self,hc];simp [u8s,List.set_append_left,hk,List.map_set]
theorem Rw.byt {w : World} {g C : Nat} {l : List UInt8} (h : Rw w g C l) : Byt w (.slice (some ⟨g,0,none⟩) l.length C) l:=by
  have hlt:=h.lt;refine ⟨_,_,rfl,h.choose_spec.2.1,h.choose_spec.2.2,.inr ⟨g,0,rfl,hlt,fun j v hv => ?_⟩⟩;unfold u8s at hv;rw [List.getElem?_map] at hv;cases hj : l[j]? with
  | none => rw [hj] at hv; simp at hv
  | some c =>
    rw [hj] at hv;have : v = .int .u8 (c.toNat : Int):=by simpa using hv.symm
    rw [this,Nat.zero_add];exact (h.use hj).1


abbrev wv (q : Wr) : Value:=.agg #[.string (strB q.nm),.int .i64 q.xt,.int .i64 q.fl]
end Go.Proofs.YtcmldhjicjmmgaaGreatDoor

namespace Go.Proofs
open Go.Shelf Go.Lib
def Tryz.weq_ren : Go.Shelf.Ren:=⟨fun | 8 => 71 | n => n,fun | 0 => 0 | 3 => 3 | 4 => 4 | 22 => 31 | 24 => 81 | n => n,fun | n => n⟩
theorem Tryz.weq_lays : Go.Proofs.SlLaysQ.n8 Tryz.prog Tryz.weq_ren:={
  mixed:=by kernel_rfl
  f8 := ⟨"slices.Equal[[]detent/api.Word,detent/api.Word]", by decide, Tryz.func71.trans (congrArg some (by kernel_rfl))⟩
  t0:=Tryz.underlying0
  a0:=Tryz.isAgg0
  z0:=Tryz.sizeOf0
  v0:=Tryz.zeroValue0
  t3:=Tryz.underlying3
  a3:=Tryz.isAgg3
  z3:=Tryz.sizeOf3
  v3:=Tryz.zeroValue3
  t4:=Tryz.underlying4
  a4:=Tryz.isAgg4
  z4:=Tryz.sizeOf4
  v4:=Tryz.zeroValue4
  t22:=Tryz.underlying31
  a22:=Tryz.isAgg31
  z22:=Tryz.sizeOf31
  v22:=Tryz.zeroValue31 }
end Go.Proofs
namespace Go.Proofs.YtcmldhjicjmmgaaGreatDoor
open Go.RowKit Go.Lib Go.Shelf


instance : Inhabited Wr:=⟨⟨[],0,0⟩⟩
theorem wneq : NeqAt Tryz.prog 81 (fun q : Wr => .agg (wcell q).toArray) (fun x y => decide (x = y)):=by
  refine ⟨fun x y w => ?_,GuardAt.agg _ (by kernel_rfl)⟩;have u3:=Tryz.underlying3;have a3:=Tryz.isAgg3;have z3:=Tryz.sizeOf3;have u9:=Tryz.underlying9;have a9:=Tryz.isAgg9;have z9:=Tryz.sizeOf9;have hS : Tryz.prog.underlying 81 = some (.struct (Tryz.prog.fieldsOf 81)):=by kernel_rfl
  have hp : Tryz.prog.stoodInHeld 81 = false:=by kernel_rfl
  simp only [wcell];rw [run_neq_struct,show (10000 : Nat) = 9999 + 1 from rfl,run_equalIn_agg w 9999 81 _ _ hS hp];simp only [Program.fieldsOf,Tryz.underlying81]
  by_cases h1 : x.nm = y.nm
  · rw [h1]
    by_cases h2 : x.xt = y.xt <;> by_cases h3 : x.fl = y.fl
    · have e : x = y:=by cases x; cases y; simp_all
      subst e;go_simp
    · have e : ¬ x = y:=fun e => h3 (by rw [e])
      go_simp
    · have e : ¬ x = y:=fun e => h2 (by rw [e])
      go_simp
    · have e : ¬ x = y:=fun e => h2 (by rw [e])
      go_simp
  · have e : ¬ x = y:=fun e => h1 (by rw [e])
    have hne:=str_ne (a:=strB x.nm) (b:=strB y.nm) (fun e => h1 (strB_inj e));go_simp
theorem wcell_len (q : Wr) : (wcell q).length = 3:=rfl
theorem wds_elem (l : List Wr) (j : Nat) (hj : j < l.length) (i : Nat) (v : Value) (h : (wcell l[j]!)[i]? = some v) : (wds l)[j * 3 + i]? = some v:=by
  rw [getElem!_pos l j hj] at h;obtain ⟨h1,h2,h3⟩:=wds_at hj;have e : j * 3 = 3 * j:=by omega
  rw [e]
  match i,h with
  | 0,h => rw [Nat.add_zero,h1]; exact h
  | 1,h => rw [h2]; exact h
  | 2,h => rw [h3]; exact h
  | i + 3,h => simp [wcell] at h
theorem allEq_words (a b : List Wr) : Lib.allEq (fun x y : Wr => decide (x = y)) a b = decide (a = b):=by
  induction a generalizing b with
  | nil => cases b <;> simp [Lib.allEq]
  | cons x a ih =>
    cases b with
    | nil => simp [Lib.allEq]
    | cons y b => simp [Lib.allEq,ih]
theorem wequal_some (g o n c g' o' n' c' : Nat) (a b : List Wr) (w : World) (h : Wds w (.slice (some ⟨g,o,none⟩) n c) a) (h' : Wds w (.slice (some ⟨g',o',none⟩) n' c') b) (ha : n ≤ 1000000) (hb : n' ≤ 1000000) :
    Calls Tryz.prog 71 #[.slice (some ⟨g,o,none⟩) n c,.slice (some ⟨g',o',none⟩) n' c'] w fun e w' => e = .returned (.bool (decide (a = b))) ∧ Below w.heap.size w w':=by
  have ea:=h.len;have eb:=h'.len;subst ea eb;have hcell : ∀ {g o : Nat} {l : List Wr} {c : Nat},Wds w (.slice (some ⟨g,o,none⟩) l.length c) l → ∀ j,j < l.length → ∀ i v,(wcell l[j]!)[i]? = some v → w.cell? ⟨g,o + j * 3 + i,none⟩ = some v:=by
    intro g o l c h j hj i v hv;have hx:=wds_elem l j hj i v hv
    rcases h.lies with hl | ⟨g2,o2,e,_,hc⟩
    · rw [hl] at hx; simp at hx
    · injection e with e
      injection e with e1 e2
      subst e1 e2;have:=hc _ _ hx
      rwa [← Nat.add_assoc] at this
  have hz:=AnyQ.slices_Equal Tryz.weq_lays 3 Tryz.isAgg81 Tryz.sizeOf81 wcell wcell_len _ wneq g o a.length c g' o' b.length c' a b w (Nat.le_refl _) (Nat.le_refl _) (by omega) (by omega) (hcell h) (hcell h');refine Calls.mono hz ?_;rintro e w1 ⟨he,q,hw⟩;rw [List.take_length,List.take_length,allEq_words] at he;exact ⟨he,by rw [hw]; exact drewN_belowW w q⟩
open Go.RowKit


theorem wequal_any (A A' : Option Addr) (n c n' c' : Nat) (a b : List Wr) (w : World) (h : Wds w (.slice A n c) a) (h' : Wds w (.slice A' n' c') b) (ha : a.length ≤ 100000) :
    Calls Tryz.prog 71 #[.slice A n c,.slice A' n' c'] w fun e w' => e = .returned (.bool (dSame a b)) ∧ Below w.heap.size w w':=by
  have ea:=h.len;have eb:=h'.len;subst ea eb
  by_cases hl : a.length = b.length
  · by_cases h0 : a.length = 0
    · have e1 : a = []:=List.eq_nil_of_length_eq_zero h0
      have e2 : b = []:=List.eq_nil_of_length_eq_zero (by omega);subst e1 e2;have H : Hid (dSame [] [] = true):=by show _ = _; rfl
      rw [H.out];clear h h' hl h0 ha;go_enter Tryz.func71,Tryz.ntmps71;(go_wp2_with fail);refine wp_loop_rounds 1 ?_
      iterate 1 (rw [rounds_succ]; go_wp2_with fail)
      go_ret;exact ⟨rfl,Below.refl _ _⟩
    · obtain ⟨g,o,hA,_⟩:=wds_cell h (k:=0) (by omega)
      obtain ⟨g',o',hA',_⟩:=wds_cell h' (k:=0) (by omega);subst hA hA';exact wequal_some g o _ c g' o' _ c' a b w h h' (by omega) (by omega)
  · have H : Hid (dSame a b = false):=by show _ = _; unfold dSame; simp; intro e; rw [e] at hl; exact hl rfl
    rw [H.out];have hl' : ((a.length : Int) != (b.length : Int)) = true:=by simp; omega
    have hl2 : ((a.length : Int) == (b.length : Int)) = false:=by simp; omega
    have hl3 : ¬ (a.length : Int) = (b.length : Int):=by omega
    clear h h' hl ha;go_enter Tryz.func71,Tryz.ntmps71;(go_wp2_with fail);go_ret;exact ⟨rfl,Below.refl _ _⟩
theorem dsame_any (A A' : Option Addr) (n c n' c' : Nat) (a b : List Wr) (w : World) (h : Wds w (.slice A n c) a) (h' : Wds w (.slice A' n' c') b) (ha : a.length ≤ 100000) :
    Calls Tryz.prog 48 #[.slice A n c,.slice A' n' c'] w fun e w' => e = .returned (.bool (dSame a b)) ∧ Below w.heap.size w w':=by
  have HC:=zqh (wequal_any A A' n c n' c' a b w h h' ha);clear h h' ha;go_enter Tryz.func48,Tryz.ntmps48;(go_wp2_with fail);refine HC.out.mono ?_;rintro e1 w5 ⟨rfl,b5⟩;have HB:=zqh b5;clear b5;(go_wp2_with fail);go_ret;exact ⟨rfl,HB.out⟩
end Go.Proofs.YtcmldhjicjmmgaaGreatDoor
