/- Part 15. -/
import Derived.Maps.Own
import Derived.Maps.Views
import Derived.Test.YtlgnijhemfkflaaGreatDoorPqAN
import Derived.Shelf.SlicesQ.Equal
import Derived.Laws.StructEq
import Derived.ArgAppend
import Derived.Shelf.SlicesE.Equal
import Derived.ChangeKeysEq
import Derived.Lib.QuietBelow
set_option linter.unusedVariables false
set_option linter.unusedSimpArgs false
set_option maxRecDepth 100000
set_option maxHeartbeats 4000000

namespace Go.Proofs.YtlgnijhemfkflaaGreatDoor
open Go.RowKit Go.Maps Go.WideMaps


def MapF (w : World) (b n : Nat) (D : DataW Unit) (f : List UInt8 → Int) : Prop:=w.ownsMap Tryz.prog 9 (plainElem Tryz.prog 3) b n D ∧ IsMap D ∧ ∀ s,D.atKey (.string s) (.lit (.int .i64 0)) = .lit (.int .i64 (f s))
theorem MapF.kept {w w' : World} {b n : Nat} {D : DataW Unit} {f : List UInt8 → Int} (h : MapF w b n D f) (x : Below w.heap.size w w') : MapF w' b n D f :=
  ⟨h.1.kept (row:=none) ⟨x.os,x.tape,x.output,x.size,fun k hk _ => x.block k hk⟩ (by simp),h.2⟩
theorem Tab.grown {w w' : World} {b n : Nat} {D : DataW Unit} {f : List UInt8 → Int} (h : Tab w) (hm : MapF w b n D f) (g : w.grownBy w' (some b)) : Tab w':=fun c hc => by
  refine g.cell (h c hc) ?_;show some 0 ≠ some b;intro e;injection e with e
  have hx:=h c hc;obtain ⟨es,clock,hb,_⟩:=hm.1;rw [← e] at hb;unfold World.cell? at hx;rw [hb] at hx;cases hx
end Go.Proofs.YtlgnijhemfkflaaGreatDoor

namespace Go.Proofs.YtlgnijhemfkflaaGreatDoor
open Go.RowKit


def HdAt (w : World) (b : Nat) (r : List UInt8) (q : Nat) (w1 : World) : Prop:=∃ A P L c K d m,At b A P L c K d m w1 ∧ m.1 = r ∧ m.2.length ≤ q ∧ r.length = 1368 ∧ w.heap.size ≤ b ∧ Below w.heap.size w w1
theorem HdAt.keep {w W W' : World} {b q : Nat} {r : List UInt8} (h : HdAt w b r q W) (x : Below W.heap.size W W') : HdAt w b r q W':=by
  obtain ⟨A,P,L,c,K,d,m,h1,h2,h3,h4,h5,h6⟩:=h;exact ⟨A,P,L,c,K,d,m,h1.keep x,h2,h3,h4,h5,below_then h6 x⟩
end Go.Proofs.YtlgnijhemfkflaaGreatDoor

namespace Go.Proofs.YtlgnijhemfkflaaGreatDoor
open Go.RowKit


theorem WOwns.block {w : World} {base n : Nat} {v : Value} {l : List Wr} (h : WOwns w base v n l) (hn : 0 < n) : ∃ g cap,v = .slice (some ⟨g,0,none⟩) n cap ∧ base ≤ g ∧ g < w.heap.size ∧ ∀ k,k < n → (∃ x,w.cell? ⟨g,k * 3 + 2,none⟩ = some x) ∧ w.frozen? ⟨g,k * 3 + 2,none⟩ = false:=by
  rcases h.2 with ⟨_,h0⟩ | ⟨g,cap,cur,e,hb,hg,hnc,hcm,hcs,ht⟩
  · omega
  · refine ⟨g,cap,e,hb,(Array.getElem?_eq_some_iff.1 hg).1,fun k hk => ?_⟩
    have hks : k * 3 + 2 < cur.size:=by omega
    refine ⟨⟨cur[k * 3 + 2],by simp [World.cell?,hg,hks]⟩,by simp [World.frozen?,hg]⟩
end Go.Proofs.YtlgnijhemfkflaaGreatDoor

namespace Go.Proofs.YtlgnijhemfkflaaGreatDoor
open Go.RowKit


def Tn (w : World) (p q r : Addr) : Prop:=w.cell? p = some (.int .u8 97) ∧ w.cell? q = some (.int .u8 122) ∧ w.cell? r = some (.int .u8 65)
def TnB (w : World) (p q r : Nat) : Prop:=Tn w ⟨p,0,none⟩ ⟨q,0,none⟩ ⟨r,0,none⟩ ∧ p < w.heap.size ∧ q < w.heap.size ∧ r < w.heap.size
theorem TnB.keep {w w' : World} {p q r : Nat} (h : TnB w p q r) (b : Below w.heap.size w w') : TnB w' p q r:=by
  obtain ⟨⟨h1,h2,h3⟩,h4,h5,h6⟩:=h;have hz:=b.size;exact ⟨⟨(b.cell (p:=⟨p,0,none⟩) h4).trans h1,(b.cell (p:=⟨q,0,none⟩) h5).trans h2,(b.cell (p:=⟨r,0,none⟩) h6).trans h3⟩,by omega,by omega,by omega⟩
def Rw (w : World) (g C : Nat) (l : List UInt8) : Prop:=∃ X : Array Value,w.heap[g]? = some (.cells ((u8s l).toArray ++ X) 5 (C,C + 1)) ∧ l.length ≤ C ∧ C ≤ maxLen
theorem Rw.lt {w : World} {g C : Nat} {l : List UInt8} (h : Rw w g C l) : g < w.heap.size:=by
  obtain ⟨X,h1,_⟩:=h;exact (Array.getElem?_eq_some_iff.1 h1).1
theorem Rw.use {w : World} {g C : Nat} {l : List UInt8} (h : Rw w g C l) {k : Nat} {c : UInt8} (hk : l[k]? = some c) : w.cell? ⟨g,k,none⟩ = some (.int .u8 (c.toNat : Int)) ∧ w.frozen? ⟨g,k,none⟩ = false:=by
  obtain ⟨X,h1,h2,h3⟩:=h;have hkl:=(List.getElem?_eq_some_iff.1 hk).1;have e : ((u8s l).toArray ++ X)[k]? = some (.int .u8 (c.toNat : Int)):=by
    rw [Array.getElem?_append_left (by simpa [u8s] using hkl)];simp [u8s,hk]
  refine ⟨by simp [World.cell?,h1,e],?_⟩;simp [World.frozen?,h1];omega
theorem Rw.keep {w w' : World} {g C : Nat} {l : List UInt8} (h : Rw w g C l) (b : Below w.heap.size w w') : Rw w' g C l:=by
  have hl:=h.lt;obtain ⟨X,h1,h2⟩:=h;exact ⟨X,(b.block g hl).trans h1,h2⟩
theorem Rw.set {w : World} {g C : Nat} {l : List UInt8} (h : Rw w g C l) {k : Nat} (hk : k < l.length) (c : UInt8) : Rw (w.setCell ⟨g,k,none⟩ (.int .u8 (c.toNat : Int))) g C (l.set k c):=by
  obtain ⟨X,h1,h2,h3⟩:=h;obtain ⟨hlt,hc⟩:=Array.getElem?_eq_some_iff.1 h1;refine ⟨X,?_,by rw [List.length_set]; exact h2,h3⟩;show (w.heap.modify g _)[g]? = _;rw [Array.getElem?_eq_getElem (by rw [Array.size_modify]; exact hlt),Array.getElem_modify_self,hc];simp [u8s,List.set_append_left,hk,List.map_set]
theorem Rw.byt {w : World} {g C : Nat} {l : List UInt8} (h : Rw w g C l) : Byt w (.slice (some ⟨g,0,none⟩) l.length C) l:=by
  have hlt:=h.lt;refine ⟨_,_,rfl,h.choose_spec.2.1,h.choose_spec.2.2,.inr ⟨g,0,rfl,hlt,fun j v hv => ?_⟩⟩;unfold u8s at hv;rw [List.getElem?_map] at hv;cases hj : l[j]? with
  | none => rw [hj] at hv; simp at hv
  | some c =>
    rw [hj] at hv;have : v = .int .u8 (c.toNat : Int):=by simpa using hv.symm
    rw [this,Nat.zero_add];exact (h.use hj).1
end Go.Proofs.YtlgnijhemfkflaaGreatDoor

namespace Go.Proofs.YtlgnijhemfkflaaGreatDoor
open Go.RowKit


def wfullAt (A : Option Addr) (n : Nat) : Option Addr:=if n = 0 then A else A.map (·.add (0 * 3))
theorem Wds.full {w : World} {A : Option Addr} {n c : Nat} {l : List Wr} (h : Wds w (.slice A n c) l) : Wds w (.slice (wfullAt A n) n n) l:=by
  have hl:=h.len;subst hl;obtain ⟨A',c',e,h1,h2,h4⟩:=h;injection e with e1 e2 e3
  subst e1 e3;refine ⟨_,_,rfl,Nat.le_refl _,by omega,?_⟩
  rcases h4 with h4 | ⟨g,o,rfl,hg,hc⟩
  · exact .inl h4
  · unfold wfullAt
    split
    · exact .inr ⟨g,o,rfl,hg,hc⟩
    · exact .inr ⟨g,o,by simp [add_at],hg,hc⟩
theorem Wds.room {w : World} {A : Option Addr} {n c : Nat} {l : List Wr} (h : Wds w (.slice A n c) l) : n ≤ c:=by
  have hl:=h.len;obtain ⟨A',c',e,h1,_⟩:=h;injection e with e1 e2 e3
  omega
end Go.Proofs.YtlgnijhemfkflaaGreatDoor

namespace Go.Proofs.YtlgnijhemfkflaaGreatDoor
open Go.RowKit


theorem VBox.cell_is {w : World} {b : Nat} {k : VmK} (h : VBox w b k) {i : Nat} {v : Value} (hc : w.cell? ⟨b,i,none⟩ = some v) : v ∈ vmC k:=by
  unfold VBox at h;unfold World.cell? at hc;rw [h] at hc;exact Array.mem_of_getElem? hc
theorem VBox.no_u8 {w : World} {b : Nat} {k : VmK} (h : VBox w b k) {i : Nat} {x : Int} : w.cell? ⟨b,i,none⟩ ≠ some (.int .u8 x):=by
  intro hc;have:=h.cell_is hc;simp at this
theorem VBox.no_str {w : World} {b : Nat} {k : VmK} (h : VBox w b k) {i : Nat} {x : ByteArray} : w.cell? ⟨b,i,none⟩ ≠ some (.string x):=by
  intro hc;have:=h.cell_is hc;simp at this
theorem lies_row {w : World} {b : Nat} {A : Option Addr} {xs : List Value} (h : Lies w A xs) (cs : Array Value) (hb : ∀ i v,xs[0]? = some v → w.cell? ⟨b,i,none⟩ ≠ some v) : Lies (w.setRow b cs) A xs:=by
  rcases h with h | ⟨g,o,e,hg,hc⟩
  · exact .inl h
  · cases hx : xs with
    | nil => exact .inl rfl
    | cons y ys =>
      right;have h0 : xs[0]? = some y:=by rw [hx]; rfl
      have hne : g ≠ b:=by
        rintro rfl;exact hb _ _ h0 (hc 0 y h0)
      refine ⟨g,o,e,by rw [size_setRow]; exact hg,fun j v hv => ?_⟩;have:=hc j v (by rw [hx]; exact hv);unfold World.cell? at this ⊢;rw [setRow_other _ _ _ _ hne];exact this
theorem Byt.vrow {w : World} {b : Nat} {k : VmK} {v : Value} {l : List UInt8} (h : Byt w v l) (hb : VBox w b k) (cs : Array Value) : Byt (w.setRow b cs) v l:=by
  obtain ⟨A,c,e,h1,h2,h3⟩:=h;refine ⟨A,c,e,h1,h2,lies_row h3 cs fun i v hv => ?_⟩;cases l with
  | nil => simp [u8s] at hv
  | cons x xs =>
    simp [u8s] at hv;rw [← hv];exact hb.no_u8
theorem Wds.vrow {w : World} {b : Nat} {k : VmK} {v : Value} {l : List Wr} (h : Wds w v l) (hb : VBox w b k) (cs : Array Value) : Wds (w.setRow b cs) v l:=by
  obtain ⟨A,c,e,h1,h2,h3⟩:=h;refine ⟨A,c,e,h1,h2,lies_row h3 cs fun i v hv => ?_⟩;cases l with
  | nil => simp [wds] at hv
  | cons x xs =>
    simp [wds,wcell] at hv;rw [← hv];exact hb.no_str
end Go.Proofs.YtlgnijhemfkflaaGreatDoor

namespace Go.Proofs.YtlgnijhemfkflaaGreatDoor
open Go.RowKit


structure Lens (k : VmK) (L : VmL) : Prop where
  m : L.m.1.length = k.mn
  d : L.d.length = k.dn
  r : L.r.length = k.rn
  f : L.f.length = k.fn
  dict : L.dict.length = k.wn
  o : L.o.length = k.on
  q : L.q.length = k.qn
  e : L.e.length = k.en
  h : L.h.length = k.hn
theorem IsVm.lens {w : World} {k : VmK} {L : VmL} (h : IsVm w k L) : Lens k L:=⟨h.m.len1,h.d.1,h.r.1,h.f.len,h.dict.len,h.o.len,h.q.len,h.e.len,h.h.len⟩
end Go.Proofs.YtlgnijhemfkflaaGreatDoor

namespace Go.Proofs.YtlgnijhemfkflaaGreatDoor
open Go.RowKit


theorem vprint_any (k : VmK) (l s : List UInt8) (w : World) (hn : k.on ≤ 65536) (h0 : 0 ≤ k.co) (h6 : k.co ≤ 65536) (hs : s.length ≤ 100000) (HR : Hid (Byt w (.slice k.oA k.on k.oc) l)) :
    Calls Tryz.prog 232 #[vmV k,.string (strB s)] w fun e w' => ∃ B m d,e = .returned (.tuple #[vmV { k with oA:=B,on:=m,oc:=d },.int .i64 (printC l s k.co)]) ∧ Byt w' (.slice B m d) (printL l s k.co) ∧ Below w.heap.size w w':=by
  have hl:=HR.out.len;have hsz : (strB s).size = s.length:=rfl
  by_cases h : k.co - (k.on : Int) < (s.length : Int)
  · have H1 : Hid (printC l s k.co = -260):=if_pos (by rw [hl]; exact h)
    have H2 : Hid (printL l s k.co = l):=if_pos (by rw [hl]; exact h);rw [H1.out];have kr:=al_two w (.cells #[.int .i64 k.cm,.int .i64 k.cd,.int .i64 k.cr,.int .i64 k.cw,.int .i64 k.co,.slice k.mA k.mn k.mc,.slice k.pA k.pn k.pc,.int .i64 k.here,.slice k.dA k.dn k.dc,.slice k.rA k.rn k.rc,.slice k.fA k.fn k.fc,.slice k.wA k.wn k.wc,.int .i64 k.last,.slice k.oA k.on k.oc,.slice k.qA k.qn k.qc,.bool k.qo,.slice k.eA k.en k.ec,.int .i64 k.free,.int .i64 k.next,.int .i64 k.arg,.int .i64 k.self,.int .i64 k.now,.slice k.hA k.hn k.hc] 36) (.cells #[.int .i64 0,.int .i64 0,.int .i64 0,.int .i64 0,.int .i64 0,.slice none 0 0,.slice none 0 0,.int .i64 0,.slice none 0 0,.slice none 0 0,.slice none 0 0,.slice none 0 0,.int .i64 0,.slice none 0 0,.slice none 0 0,.bool false,.slice none 0 0,.int .i64 0,.int .i64 0,.int .i64 0,.int .i64 0,.int .i64 0,.slice none 0 0] 36);have HPr : Hid (VBox ((w.alloc (.cells #[.int .i64 k.cm,.int .i64 k.cd,.int .i64 k.cr,.int .i64 k.cw,.int .i64 k.co,.slice k.mA k.mn k.mc,.slice k.pA k.pn k.pc,.int .i64 k.here,.slice k.dA k.dn k.dc,.slice k.rA k.rn k.rc,.slice k.fA k.fn k.fc,.slice k.wA k.wn k.wc,.int .i64 k.last,.slice k.oA k.on k.oc,.slice k.qA k.qn k.qc,.bool k.qo,.slice k.eA k.en k.ec,.int .i64 k.free,.int .i64 k.next,.int .i64 k.arg,.int .i64 k.self,.int .i64 k.now,.slice k.hA k.hn k.hc] 36)).alloc (.cells #[.int .i64 0,.int .i64 0,.int .i64 0,.int .i64 0,.int .i64 0,.slice none 0 0,.slice none 0 0,.int .i64 0,.slice none 0 0,.slice none 0 0,.slice none 0 0,.slice none 0 0,.int .i64 0,.slice none 0 0,.slice none 0 0,.bool false,.slice none 0 0,.int .i64 0,.int .i64 0,.int .i64 0,.int .i64 0,.int .i64 0,.slice none 0 0] 36)) w.heap.size k):=(vbox_new w k).keep (al_one _ _)
    have HXr : Hid (VBox ((w.alloc (.cells #[.int .i64 k.cm,.int .i64 k.cd,.int .i64 k.cr,.int .i64 k.cw,.int .i64 k.co,.slice k.mA k.mn k.mc,.slice k.pA k.pn k.pc,.int .i64 k.here,.slice k.dA k.dn k.dc,.slice k.rA k.rn k.rc,.slice k.fA k.fn k.fc,.slice k.wA k.wn k.wc,.int .i64 k.last,.slice k.oA k.on k.oc,.slice k.qA k.qn k.qc,.bool k.qo,.slice k.eA k.en k.ec,.int .i64 k.free,.int .i64 k.next,.int .i64 k.arg,.int .i64 k.self,.int .i64 k.now,.slice k.hA k.hn k.hc] 36)).alloc (.cells #[.int .i64 0,.int .i64 0,.int .i64 0,.int .i64 0,.int .i64 0,.slice none 0 0,.slice none 0 0,.int .i64 0,.slice none 0 0,.slice none 0 0,.slice none 0 0,.slice none 0 0,.int .i64 0,.slice none 0 0,.slice none 0 0,.bool false,.slice none 0 0,.int .i64 0,.int .i64 0,.int .i64 0,.int .i64 0,.int .i64 0,.slice none 0 0] 36)) (w.heap.size + 1) vm0):=by have:=vbox_zero (w.alloc (.cells #[.int .i64 k.cm,.int .i64 k.cd,.int .i64 k.cr,.int .i64 k.cw,.int .i64 k.co,.slice k.mA k.mn k.mc,.slice k.pA k.pn k.pc,.int .i64 k.here,.slice k.dA k.dn k.dc,.slice k.rA k.rn k.rc,.slice k.fA k.fn k.fc,.slice k.wA k.wn k.wc,.int .i64 k.last,.slice k.oA k.on k.oc,.slice k.qA k.qn k.qc,.bool k.qo,.slice k.eA k.en k.ec,.int .i64 k.free,.int .i64 k.next,.int .i64 k.arg,.int .i64 k.self,.int .i64 k.now,.slice k.hA k.hn k.hc] 36)); rw [World.size_alloc] at this; exact this
    have HBr:=zqh kr;clear hl kr;go_enter Tryz.func232,Tryz.ntmps232
    go_wp2_with (first
    | (refine wpList_load_row rfl 36 _ rfl w.heap.size rfl _ _ _ _ HPr.out Tryz.underlying36 rfl (by kernel_rfl) ?_)
    | (refine wpList_store_row rfl 36 _ _ rfl (w.heap.size + 1) (vmC k) rfl rfl _ _ HXr.out (by kernel_rfl) rfl (vm_one _) ?_))
    refine bodyPost_ret (res_ct rfl _ _ _ _ rfl (vrow HXr.out k)) rfl ⟨k.oA,k.on,k.oc,rfl,?_,?_⟩
    · rw [H2.out]
      exact HR.out.keep (below_setRow HBr.out (by omega) _)
    · exact below_setRow HBr.out (by omega) _
  · have H1 : Hid (printC l s k.co = 0):=if_neg (by rw [hl]; exact h)
    have H2 : Hid (printL l s k.co = l ++ s):=if_neg (by rw [hl]; exact h);rw [H1.out];have h' : decide (k.co - (k.on : Int) < (s.length : Int)) = false:=by simp; omega
    obtain ⟨o1,ho1⟩ : ∃ o1 : Obj,(.cells #[.int .i64 k.cm,.int .i64 k.cd,.int .i64 k.cr,.int .i64 k.cw,.int .i64 k.co,.slice k.mA k.mn k.mc,.slice k.pA k.pn k.pc,.int .i64 k.here,.slice k.dA k.dn k.dc,.slice k.rA k.rn k.rc,.slice k.fA k.fn k.fc,.slice k.wA k.wn k.wc,.int .i64 k.last,.slice k.oA k.on k.oc,.slice k.qA k.qn k.qc,.bool k.qo,.slice k.eA k.en k.ec,.int .i64 k.free,.int .i64 k.next,.int .i64 k.arg,.int .i64 k.self,.int .i64 k.now,.slice k.hA k.hn k.hc] 36) = o1:=⟨_,rfl⟩;obtain ⟨o2,ho2⟩ : ∃ o2 : Obj,(.cells #[.int .i64 0,.int .i64 0,.int .i64 0,.int .i64 0,.int .i64 0,.slice none 0 0,.slice none 0 0,.int .i64 0,.slice none 0 0,.slice none 0 0,.slice none 0 0,.slice none 0 0,.int .i64 0,.slice none 0 0,.slice none 0 0,.bool false,.slice none 0 0,.int .i64 0,.int .i64 0,.int .i64 0,.int .i64 0,.int .i64 0,.slice none 0 0] 36) = o2:=⟨_,rfl⟩;obtain ⟨W,hW⟩ : ∃ W,(w.alloc o1).alloc o2 = W:=⟨_,rfl⟩;have kk:=al_two w o1 o2;have hx : VBox ((w.alloc o1).alloc o2) w.heap.size k ∧ VBox ((w.alloc o1).alloc o2) (w.heap.size + 1) vm0:=by rw [← ho1,← ho2]; exact ⟨(vbox_new w k).keep (al_one _ _),by have:=vbox_zero (w.alloc (.cells #[.int .i64 k.cm,.int .i64 k.cd,.int .i64 k.cr,.int .i64 k.cw,.int .i64 k.co,.slice k.mA k.mn k.mc,.slice k.pA k.pn k.pc,.int .i64 k.here,.slice k.dA k.dn k.dc,.slice k.rA k.rn k.rc,.slice k.fA k.fn k.fc,.slice k.wA k.wn k.wc,.int .i64 k.last,.slice k.oA k.on k.oc,.slice k.qA k.qn k.qc,.bool k.qo,.slice k.eA k.en k.ec,.int .i64 k.free,.int .i64 k.next,.int .i64 k.arg,.int .i64 k.self,.int .i64 k.now,.slice k.hA k.hn k.hc] 36)); rwa [World.size_alloc] at this⟩
    rw [hW] at kk hx;have HB:=zqh kk;have HP:=zqh hx.1;have HX:=zqh hx.2;have HW : Hid ((w.alloc (.cells #[.int .i64 k.cm,.int .i64 k.cd,.int .i64 k.cr,.int .i64 k.cw,.int .i64 k.co,.slice k.mA k.mn k.mc,.slice k.pA k.pn k.pc,.int .i64 k.here,.slice k.dA k.dn k.dc,.slice k.rA k.rn k.rc,.slice k.fA k.fn k.fc,.slice k.wA k.wn k.wc,.int .i64 k.last,.slice k.oA k.on k.oc,.slice k.qA k.qn k.qc,.bool k.qo,.slice k.eA k.en k.ec,.int .i64 k.free,.int .i64 k.next,.int .i64 k.arg,.int .i64 k.self,.int .i64 k.now,.slice k.hA k.hn k.hc] 36)).alloc (.cells #[.int .i64 0,.int .i64 0,.int .i64 0,.int .i64 0,.int .i64 0,.slice none 0 0,.slice none 0 0,.int .i64 0,.slice none 0 0,.slice none 0 0,.slice none 0 0,.slice none 0 0,.int .i64 0,.slice none 0 0,.slice none 0 0,.bool false,.slice none 0 0,.int .i64 0,.int .i64 0,.int .i64 0,.int .i64 0,.int .i64 0,.slice none 0 0] 36) = W):=by show _ = _; rw [ho1,ho2]; exact hW
    have hS : W.heap.size = w.heap.size + 1 + 1:=by rw [← hW]; simp
    have HS:=zqh hS;obtain ⟨cc,w9,hcv,hby,hb9⟩:=conv_in s W (by omega);have HQ:=pair_new w9 (.slice k.oA k.on k.oc) (.slice (some ⟨W.heap.size,0,none⟩) s.length cc) 24;have ka:=below_then hb9 (al_one w9 (.cells #[.slice k.oA k.on k.oc,.slice (some ⟨W.heap.size,0,none⟩) s.length cc] 24));have HC:=zqh (bcat_any _ _ _ _ _ _ l s w9.heap.size _ HQ.1 HQ.2 ((HR.out.keep kk).keep ka) (hby.keep (al_one w9 _)) (by omega) (by omega));have HKA:=zqh ka;have HX9:=zqh hb9.size;obtain ⟨p0,p1,p2,p3,p4,p5,p6,p7,p8,p9,p10,p11,p12,p13,p14,p15,p16,p17,p18,p19,p20,p21,p22⟩:=HP.out.use;clear hl h kk hx hW ho1 ho2 hS hby hb9 HQ ka;go_enter Tryz.func232,Tryz.ntmps232;go_upto_region 3 with fail
    rw [HW.out];(go_wp2_with fail);refine HC.out.mono ?_;rintro e w4 ⟨v,rfl,o4,b4⟩;obtain ⟨B,m,d,rfl⟩:=byt_slice o4.byt;obtain rfl : (l ++ s).length = m:=o4.byt.len;have hfr:=own_from o4;have HF : Hid (∀ b,B = some b → W.heap.size ≤ b.block):=(fun b e => by have h1:=hfr b.block (by rw [e]; rfl); have h2:=HX9.out; rw [World.size_alloc] at h1; omega);have HR4:=zqh o4.byt;have bb:=below_then HKA.out b4;have XP:=zqh (HP.out.keep bb);have XZ:=zqh (HX.out.keep bb);clear p0 p1 p2 p3 p4 p5 p6 p7 p8 p9 p10 p11 p12 p13 p14 p15 p16 p17 p18 p19 p20 p21 p22;obtain ⟨p0,p1,p2,p3,p4,p5,p6,p7,p8,p9,p10,p11,p12,p13,p14,p15,p16,p17,p18,p19,p20,p21,p22⟩:=XP.out.use;obtain ⟨f0,f1,f2,f3,f4,f5,f6,f7,f8,f9,f10,f11,f12,f13,f14,f15,f16,f17,f18,f19,f20,f21,f22⟩:=XP.out.free;have YP:=zqh (XP.out.set_o B (l ++ s).length d);have YZ : Hid (VBox (w4.setCell ⟨w.heap.size,13,none⟩ (.slice B (l ++ s).length d)) (w.heap.size + 1) vm0):=by show VBox _ _ _; unfold VBox; rw [Below.heap_setCell _ _ _ _ (by simp)]; exact XZ.out
    have lp:=XP.out.lt;have HB2:=zqh bb;obtain ⟨ln,hln⟩ : ∃ n,(l ++ s).length = n:=⟨_,rfl⟩;rw [hln] at YP YZ HR4 ⊢;clear hfr o4 b4 bb HC hcv hln
    go_wp2_with (first
    | (refine wpList_load_row rfl 36 _ rfl w.heap.size rfl _ _ _ _ YP.out Tryz.underlying36 rfl (by kernel_rfl) ?_)
    | (refine wpList_store_row rfl 36 _ _ rfl (w.heap.size + 1) (vmC { k with oA:=B,on:=ln,oc:=d }) rfl rfl _ _ YZ.out (by kernel_rfl) rfl (vm_one _) ?_))
    have YF:=zqh (vrow YZ.out { k with oA:=B,on:=ln,oc:=d });refine bodyPost_ret (res_ct rfl _ _ _ _ rfl YF.out) rfl ⟨B,ln,d,rfl,?_,?_⟩
    · rw [H2.out]
      refine HR4.out.fresh (W:=W) HF.out (by rw [size_setRow]; simp [World.setCell]) fun g hg hlt => ?_
      rw [setRow_other _ _ _ _ (by have:=HS.out; omega),Below.heap_setCell _ _ _ _ (by have:=HS.out; show g ≠ w.heap.size; omega)]
    · exact below_setRow ((below_then HB.out HB2.out).setCell (p:=⟨w.heap.size,13,none⟩) (Nat.le_refl _) _) (by omega) _
end Go.Proofs.YtlgnijhemfkflaaGreatDoor

namespace Go.Proofs.YtlgnijhemfkflaaGreatDoor
open Go.RowKit


abbrev PicOut (o : Bool) (l' : List UInt8) (k : Int) (w : World) (e : Ending) (w' : World) : Prop:=∃ A' n' c',e = .returned (.tuple #[.agg #[.slice A' n' c',.bool o],.int .i64 k]) ∧ Byt w' (.slice A' n' c') l' ∧ Below w.heap.size w w'
end Go.Proofs.YtlgnijhemfkflaaGreatDoor

namespace Go.Proofs.YtlgnijhemfkflaaGreatDoor
open Go.RowKit


theorem div_pair (H L k : Nat) (hk : 0 < k) : (H * 18446744073709551616 + L) / k = H / k * 18446744073709551616 + (H % k * 18446744073709551616 + L) / k ∧ (H * 18446744073709551616 + L) % k = (H % k * 18446744073709551616 + L) % k:=by
  have e:=Nat.div_add_mod H k;have e2 : H * 18446744073709551616 + L = k * (H / k * 18446744073709551616) + (H % k * 18446744073709551616 + L):=by
    conv => lhs; rw [← e]
    rw [Nat.add_mul,Nat.mul_assoc,Nat.add_assoc]
  rw [e2,Nat.mul_add_div hk,Nat.mul_add_mod];exact ⟨rfl,rfl⟩
theorem rest_lt (r L k : Nat) (hr : r < k) (hL : L < 18446744073709551616) : (r * 18446744073709551616 + L) / k < 18446744073709551616:=by
  rw [Nat.div_lt_iff_lt_mul (by omega)];have : (r + 1) * 18446744073709551616 ≤ k * 18446744073709551616:=Nat.mul_le_mul_right _ (by omega);rw [Nat.mul_comm 18446744073709551616 k];omega
theorem mod_low (t q : Nat) (h : q < 18446744073709551616) : (t * 18446744073709551616 + q) % 18446744073709551616 = q:=by omega
theorem div_high (t q : Nat) (h : q < 18446744073709551616) : (t * 18446744073709551616 + q) / 18446744073709551616 = t:=by omega
theorem dig_facts (lo hi : Int) (k : Nat) (h2 : 2 ≤ k) (h36 : k ≤ 36) :
    uq lo ((un hi % k : Nat) : Int) (k : Int) = lowI (pairN lo hi / k) ∧ ur lo ((un hi % k : Nat) : Int) (k : Int) = ((pairN lo hi % k : Nat) : Int) ∧ uc ((un hi % k : Nat) : Int) (k : Int) = 0 ∧ wrap64 ((un hi / k : Nat) : Int) = highI (pairN lo hi / k):=by
  have hH:=un_lt hi;have hL:=un_lt lo;obtain ⟨H,eH⟩ : ∃ H,un hi = H:=⟨_,rfl⟩;obtain ⟨L,eL⟩ : ∃ L,un lo = L:=⟨_,rfl⟩;unfold uq ur uc pairN;rw [eH] at hH ⊢;rw [eL] at hL ⊢;obtain ⟨d1,d2⟩:=div_pair H L k (by omega);have hr : H % k < k:=Nat.mod_lt _ (by omega);have hq:=rest_lt (H % k) L k hr hL;obtain ⟨r,er⟩ : ∃ r,H % k = r:=⟨_,rfl⟩;rw [er] at d1 d2 hr hq ⊢;have u1 : un (r : Int) = r:=by have:=un_mod (r : Int); omega
  have u2 : un (k : Int) = k:=by have:=un_mod (k : Int); omega
  have ok : uok (r : Int) (k : Int) = true:=by unfold uok; rw [u1,u2]; simpa using hr
  rw [ok,u1,u2,if_pos rfl,if_pos rfl,if_pos rfl,if_neg (by omega),d1,d2];obtain ⟨q,eq⟩ : ∃ q,(r * 18446744073709551616 + L) / k = q:=⟨_,rfl⟩;rw [eq] at hq ⊢;have hm : (r * 18446744073709551616 + L) % k < k:=Nat.mod_lt _ (by omega);obtain ⟨m,em⟩ : ∃ m,(r * 18446744073709551616 + L) % k = m:=⟨_,rfl⟩;rw [em] at hm ⊢;have hk : H / k < 18446744073709551616:=Nat.lt_of_le_of_lt (Nat.div_le_self _ _) hH;obtain ⟨t,et⟩ : ∃ t,H / k = t:=⟨_,rfl⟩;rw [et] at hk ⊢;refine ⟨?_,?_,rfl,?_⟩
  · unfold lowI
    rw [mod_low t q hq]
  · exact w64_id (by omega) (by omega)
  · unfold highI
    rw [div_high t q hq]
theorem byte_dig (P k : Nat) : digF ((P % k : Nat) : Int) = ((UInt8.ofNat (digN (P % k))).toNat : Int):=dig_u8 _
theorem byteI_u8 (x : UInt8) : byteI (x.toNat : Int) = x:=by
  apply UInt8.toNat_inj.1
  have:=byteI_nat (x.toNat : Int);have:=x.toNat_lt;omega
def AllInv (o : Bool) (l : List UInt8) (lo hi b : Int) (l' : List UInt8) (u : Nat) (bad : Int) : Prop :=
  (bad = 0 ∧ o = true ∧ baseB b = true ∧ l'.length ≤ 130 ∧ ∃ laid,l' = l ++ laid ∧ (u = 0 → figs lo hi b = laid.reverse) ∧ (u ≠ 0 → figs lo hi b = usF b.toNat u ++ laid.reverse)) ∨ (bad ≠ 0 ∧ l'.length ≤ 1000 ∧ allL o l lo hi b = l ∧ bad = allC o l lo hi b)
theorem base_nat {b : Int} (h : baseB b = true) : 2 ≤ b.toNat ∧ b.toNat ≤ 36:=by have:=(baseB_iff b).1 h; omega
theorem us_one (b u : Nat) : 1 ≤ (usF b u).length:=by
  have:=@us_ne b u;cases h : usF b u with
  | nil => exact absurd h this
  | cons a t => simp
theorem pall_no {o : Bool} {l : List UInt8} {lo hi b : Int} (h : allOK o l lo hi b = false) : allL o l lo hi b = l:=by unfold allL; rw [if_neg (by simp [h])]
theorem div_lt (P k : Nat) (h : P < 340282366920938463463374607431768211456) : P / k < 340282366920938463463374607431768211456:=Nat.lt_of_le_of_lt (Nat.div_le_self _ _) h
theorem digOK_yes {o : Bool} {l : List UInt8} {b : Int} (hb : baseB b = true) (hk : pOpen o l = true) : digOK o l b = true:=by unfold digOK; rw [hb,hk]; rfl
theorem inv_step {o : Bool} {l l' laid : List UInt8} {lo hi b low high : Int} (hb : baseB b = true) (ho : o = true) (hl : l' = l ++ laid) (hl' : l'.length ≤ 130)
    (hf : figs lo hi b = usF b.toNat (pairN low high) ++ laid.reverse) : AllInv o l lo hi b (digL o l' low high b) (pairN (digLo o l' low high b) (digHi o l' low high b)) (digC o l' b):=by
  obtain ⟨h2,h36⟩:=base_nat hb;cases hk : pOpen o l' with
  | true =>
    have hlt:=((pOpen_iff _ _).1 hk).2;refine .inl ⟨?_,ho,hb,?_,laid ++ [digU low high b],?_,?_,?_⟩
    · unfold digC holdC; rw [if_pos hb,if_pos hk]
    · unfold digL; rw [if_pos (digOK_yes hb hk)]; simp; omega
    · unfold digL; rw [if_pos (digOK_yes hb hk),hl]; simp
    all_goals
      unfold digLo digHi;rw [if_pos (digOK_yes hb hk),if_pos (digOK_yes hb hk),pair_back (div_lt _ _ (pairN_lt _ _)),hf];intro h
    · have hlt : pairN low high < b.toNat:=(Nat.div_eq_zero_iff_lt (by omega)).1 h
      rw [usF_low hlt];unfold digU;rw [Nat.mod_eq_of_lt hlt];simp
    · have hge : b.toNat ≤ pairN low high:=by
        rcases Nat.lt_or_ge (pairN low high) b.toNat with h' | h'
        · exact absurd ((Nat.div_eq_zero_iff_lt (by omega)).2 h') h
        · exact h'
      rw [usF_big h2 hge];unfold digU;simp
  | false =>
    have hge : 130 ≤ l'.length:=by have:=(pOpen_no _ _).1 hk; simp [ho] at this; omega
    have hno : allOK o l lo hi b = false:=by
      unfold allOK;rw [hb,hf];have:=us_one b.toNat (pairN low high);rw [hl] at hge;simp at hge ⊢;intro _;omega
    refine .inr ⟨?_,?_,pall_no hno,?_⟩
    · unfold digC holdC; rw [if_pos hb,if_neg (by simp [hk])]; omega
    · unfold digL digOK; rw [hb,hk,if_neg (by simp)]; omega
    · unfold digC holdC allC; rw [if_pos hb,if_pos hb,if_neg (by simp [hk]),hno,if_neg (by simp)]
theorem inv_start {o : Bool} {l : List UInt8} {lo hi b : Int} (hm : l.length ≤ 1000) : AllInv o l lo hi b (digL o l lo hi b) (pairN (digLo o l lo hi b) (digHi o l lo hi b)) (digC o l b):=by
  cases hb : baseB b with
  | false =>
    have hno : allOK o l lo hi b = false:=by unfold allOK; rw [hb]; rfl
    refine .inr ⟨?_,?_,pall_no hno,?_⟩
    · unfold digC; rw [if_neg (by simp [hb])]; omega
    · unfold digL digOK; rw [hb,Bool.false_and,if_neg (by simp)]; exact hm
    · unfold digC allC; rw [if_neg (by simp [hb]),if_neg (by simp [hb])]
  | true =>
    by_cases ho : o = true ∧ l.length ≤ 130
    · exact inv_step (laid:=[]) hb ho.1 (by simp) ho.2 (by unfold figs; simp)
    · have hk : pOpen o l = false:=(pOpen_no _ _).2 (fun h => ho ⟨h.1,by omega⟩)
      have hno : allOK o l lo hi b = false:=by
        unfold allOK;rw [hb];simp;intro h;have : ¬ l.length ≤ 130:=fun h' => ho ⟨h,h'⟩
        omega
      refine .inr ⟨?_,?_,pall_no hno,?_⟩
      · unfold digC holdC; rw [if_pos hb,if_neg (by simp [hk])]; omega
      · unfold digL digOK; rw [hb,hk,if_neg (by simp)]; exact hm
      · unfold digC holdC allC; rw [if_pos hb,if_pos hb,if_neg (by simp [hk]),hno,if_neg (by simp)]
theorem AllInv.next {o : Bool} {l l' : List UInt8} {lo hi b low high : Int} (h : AllInv o l lo hi b l' (pairN low high) 0) (h0 : pairN low high ≠ 0) : AllInv o l lo hi b (digL o l' low high b) (pairN (digLo o l' low high b) (digHi o l' low high b)) (digC o l' b):=by
  rcases h with ⟨_,ho,hb,hl',laid,hl,_,hf⟩ | ⟨h,_⟩
  · exact inv_step hb ho hl hl' (hf h0)
  · exact absurd rfl h
theorem AllInv.done {o : Bool} {l l' : List UInt8} {lo hi b : Int} (h : AllInv o l lo hi b l' 0 0) : l' = allL o l lo hi b ∧ allC o l lo hi b = 0:=by
  rcases h with ⟨_,ho,hb,hl',laid,hl,hf,_⟩ | ⟨h,_⟩
  · have hf:=hf rfl
    have hok : allOK o l lo hi b = true:=by
      unfold allOK;rw [hb,hf,ho];rw [hl] at hl';simp at hl' ⊢;exact hl'
    refine ⟨?_,?_⟩
    · unfold allL; rw [if_pos hok,hf,hl]; simp
    · unfold allC; rw [if_pos hb,if_pos hok]
  · exact absurd rfl h
theorem AllInv.fell {o : Bool} {l l' : List UInt8} {lo hi b bad : Int} {u : Nat} (h : AllInv o l lo hi b l' u bad) (h0 : bad ≠ 0) : allL o l lo hi b = l ∧ bad = allC o l lo hi b:=by
  rcases h with ⟨h,_⟩ | ⟨_,_,h⟩
  · exact absurd h h0
  · exact h
theorem AllInv.len {o : Bool} {l l' : List UInt8} {lo hi b bad : Int} {u : Nat} (h : AllInv o l lo hi b l' u bad) : l'.length ≤ 1000:=by
  rcases h with ⟨_,_,_,h,_⟩ | ⟨_,h,_⟩
  · omega
  · exact h
theorem digLo_cell {o : Bool} {l : List UInt8} {lo hi b : Int} (h : cellR lo) : cellR (digLo o l lo hi b):=by
  unfold digLo
  split
  · exact low_rng _
  · exact h
theorem digHi_cell {o : Bool} {l : List UInt8} {lo hi b : Int} (h : cellR hi) : cellR (digHi o l lo hi b):=by
  unfold digHi
  split
  · exact high_rng _
  · exact h
end Go.Proofs.YtlgnijhemfkflaaGreatDoor

namespace Go.Proofs.YtlgnijhemfkflaaGreatDoor
open Go.RowKit


abbrev DigOut (o : Bool) (l' : List UInt8) (a b k : Int) (w : World) (e : Ending) (w' : World) : Prop:=∃ A' n' c',e = .returned (.tuple #[.agg #[.slice A' n' c',.bool o],.int .i64 a,.int .i64 b,.int .i64 k]) ∧ Byt w' (.slice A' n' c') l' ∧ Below w.heap.size w w'
theorem dig_no {o : Bool} {l : List UInt8} {b : Int} (h : baseB b = false) (lo hi : Int) : digL o l lo hi b = l ∧ digLo o l lo hi b = lo ∧ digHi o l lo hi b = hi ∧ digC o l b = -24:=by
  unfold digL digLo digHi digC digOK;simp [h]
theorem dig_full {o : Bool} {l : List UInt8} {b : Int} (h : baseB b = true) (hk : pOpen o l = false) (lo hi : Int) : digL o l lo hi b = l ∧ digLo o l lo hi b = lo ∧ digHi o l lo hi b = hi ∧ digC o l b = -17:=by
  unfold digL digLo digHi digC digOK holdC;simp [h,hk]
theorem dig_ok {o : Bool} {l : List UInt8} {b : Int} (h : baseB b = true) (hk : pOpen o l = true) (lo hi : Int) : digL o l lo hi b = l ++ [digU lo hi b] ∧ digLo o l lo hi b = lowI (pairN lo hi / b.toNat) ∧ digHi o l lo hi b = highI (pairN lo hi / b.toNat) ∧ digC o l b = 0:=by
  unfold digL digLo digHi digC digOK holdC;simp [h,hk]
end Go.Proofs.YtlgnijhemfkflaaGreatDoor

namespace Go.Proofs.YtlgnijhemfkflaaGreatDoor
open Go.RowKit


theorem begin_any (w : World) : Calls Tryz.prog 143 #[] w fun e w' => ∃ A' n' c',e = .returned (.agg #[.slice A' n' c',.bool true]) ∧ Byt w' (.slice A' n' c') [] ∧ Below w.heap.size w w':=by
  obtain ⟨r0,r1,_,_⟩:=(pbox_new w none 0 0 true).use;go_enter Tryz.func143,Tryz.ntmps143;go_wp2;refine bodyPost_ret (v:=.agg #[.slice none 0 0,.bool true]) ?_ rfl ?_
  · simp [results,Tryz.results143,go_sem,r0,r1]
  · exact ⟨none,0,0,rfl,byt_nil _,al_one _ _⟩
end Go.Proofs.YtlgnijhemfkflaaGreatDoor

namespace Go.Proofs.YtlgnijhemfkflaaGreatDoor
open Go.RowKit


theorem wpList_vstore {ops : Array Oper} {rest : List Oper} {o : Oper} {a : Act} {Q : Exit → Act → World → Prop} {w : World} (hw : Region.wanted o (yielded ops a.tmps) = true) (x y : Operand) (ho : o.op = .store 36 x y)
    (b : Nat) (j k : VmK) (hx : a.eval x = .pointer (some ⟨b,0,none⟩)) (hy : a.eval y = vmV k) (hb : VBox w b j) (h : wpList Tryz.prog ops Q rest (a.put o.dst undef) (w.setRow b (vmC k))) : wpList Tryz.prog ops Q (o :: rest) a w :=
  wpList_step fun K hK => by
    rw [if_pos hw];exact wp_store_row 36 x y ho b (vmC k) hx hy _ _ hb vm_info rfl (vm_one k) (hK _ _ h)
end Go.Proofs.YtlgnijhemfkflaaGreatDoor

namespace Go.Proofs.YtlgnijhemfkflaaGreatDoor
open Go.RowKit


structure LFit (L : VmL) : Prop where
  m : L.m.1.length ≤ 8192
  d : L.d.length ≤ 301
  r : L.r.length ≤ 301
  f : L.f.length ≤ 70
  dict : L.dict.length ≤ 300
  o : L.o.length ≤ 6000
  e : L.e.length ≤ 20
  h : L.h.length ≤ 70
theorem fit_lens {k : VmK} {L : VmL} (f : LFit L) (l : Lens k L) : k.mn ≤ 8192 ∧ k.dn ≤ 301 ∧ k.rn ≤ 301 ∧ k.fn ≤ 70 ∧ k.wn ≤ 300 ∧ k.on ≤ 6000 ∧ k.en ≤ 20 ∧ k.hn ≤ 70:=by
  rw [← l.m,← l.d,← l.r,← l.f,← l.dict,← l.o,← l.e,← l.h];exact ⟨f.m,f.d,f.r,f.f,f.dict,f.o,f.e,f.h⟩
theorem rsame_few {w : World} {k : VmK} {L : VmL} {j : VmK} {M : VmL} (h : IsVm w k L) (h' : IsVm w j M) (f : LFit L) (g : LFit M) :
    Calls Tryz.prog 18 #[vmV k,vmV j] w fun e w' => e = .returned (.bool (vSame k L j M)) ∧ Below w.heap.size w w':=by
  obtain ⟨a1,a2,a3,a4,a5,a6,a7,a8⟩:=fit_lens f h.lens;obtain ⟨b1,b2,b3,b4,b5,b6,b7,b8⟩:=fit_lens g h'.lens;exact rvsame_any k L j M w (zqh (by omega)) h h'
theorem rsame_two {w : World} {k j : VmK} {L : VmL} (h : IsVm w k L) (h' : IsVm w j L) (s : Sc k j) (f : LFit L) :
    Calls Tryz.prog 18 #[vmV k,vmV j] w fun e w' => e = .returned (.bool true) ∧ Below w.heap.size w w':=by
  have:=rsame_few h h' f f;rw [same_self s] at this;exact this
end Go.Proofs.YtlgnijhemfkflaaGreatDoor

namespace Go.Proofs.YtlgnijhemfkflaaGreatDoor
open Go.RowKit


def CfBox (w : World) (b : Nat) (m d r v o : Int) : Prop:=w.heap[b]? = some (.cells #[.int .i64 m,.int .i64 d,.int .i64 r,.int .i64 v,.int .i64 o] 23 (0,0))
theorem CfBox.lt {w : World} {b : Nat} {m d r v o : Int} (h : CfBox w b m d r v o) : b < w.heap.size:=(Array.getElem?_eq_some_iff.1 h).1
theorem CfBox.keep {w w' : World} {b : Nat} {m d r v o : Int} (h : CfBox w b m d r v o) (x : Below w.heap.size w w') : CfBox w' b m d r v o:=(x.block b h.lt).trans h
theorem CfBox.use {w : World} {b : Nat} {m d r v o : Int} (h : CfBox w b m d r v o) : w.cell? ⟨b,0,none⟩ = some (.int .i64 m) ∧ w.cell? ⟨b,1,none⟩ = some (.int .i64 d) ∧ w.cell? ⟨b,2,none⟩ = some (.int .i64 r) ∧ w.cell? ⟨b,3,none⟩ = some (.int .i64 v) ∧ w.cell? ⟨b,4,none⟩ = some (.int .i64 o):=by
  unfold CfBox at h;refine ⟨?_,?_,?_,?_,?_⟩ <;> simp [World.cell?,h]
end Go.Proofs.YtlgnijhemfkflaaGreatDoor
