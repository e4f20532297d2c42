/- Part 16. -/
import Derived.JoinedOf
import Derived.Shelf.Spec.SlicesGrow
import Derived.Test.YtlgnijhemfkflaaGreatDoorPartAO
set_option linter.unusedVariables false
set_option linter.unusedSimpArgs false
set_option maxRecDepth 100000
set_option maxHeartbeats 4000000

namespace Go.Proofs.YtlgnijhemfkflaaGreatDoor


theorem and2 {a b : Bool} (ha : a = true) (hb : b = true) : (a && b) = true:=by rw [ha,hb]; rfl
theorem joined_of {P : Program} {f : FuncId} {fn : Func} {s : ChangeSpec} {c : OpenClaim} (h1 : (c.wf (OpenSpec.ofChange s)) = true) (h2 : (laidOutB P) = true) (h3 : (mapsRowed P) = true) (h4 : (fn.params.all (P.readableRec ·)) = true) (h5 : (namedTie P c.named s.vars) = true) (h6 : ((c.stops == [])) = true) (h7 : ((P.stops == [])) = true) (h8 : ((c.knobs == [])) = true) (h9 : ((P.stopKnobs == [])) = true) (h10 : ((c.inPlace == P.inPlace f)) = true) (h11 : ((c.unfollowed == P.unfollowed f)) = true) (h12 : ((c.recurses == P.recurses f)) = true) (h13 : ((c.named == P.varsNamed f)) = true) (h14 : ((c.maps == (fn.params.toList ++ s.plain.varTypes P).any (P.mapsRec ·))) = true) (h15 : ((c.ifaces == (fn.params.toList ++ s.plain.varTypes P).any (P.ifacesRec ·))) = true) (h16 : ((c.mapsOut == P.mapsAmong fn.resultTypes.toList)) = true) (h17 : ((c.loops == (fn.params.toList ++ s.plain.varTypes P).any (P.loopsFrom ·))) = true) (h18 : ((c.wideKeys == (fn.params.toList ++ s.plain.varTypes P ++ fn.resultTypes.toList).any (P.wideKeysFrom ·))) = true) (h19 : (s.vars.all (P.varReadable ·)) = true) (h20 : (fn.resultTypes.all (fun t => P.readableRec t && decide (t < P.types.size))) = true) (h21 : ((c.ifacesOut == fn.resultTypes.toList.any (P.ifacesRec ·))) = true) (h22 : ((c.loopsOut == fn.resultTypes.toList.any (P.loopsFrom ·))) = true) (h23 : ((c.plainKeys == P.plainKeys)) = true) (h24 : (c.shortTexts.isNone) = true) (h25 : (P.stopsHeard) = true) (h26 : (P.mayEnter) = true) (h27 : ((c.lifted == P.liftsFinal)) = true) (h28 : ((P.make == some c.make)) = true) (h29 : ((c.kinds == (if c.domain.isEmpty then [] else fn.params.toList.map fun t => match P.underlying t with | some (.int k) => some k | _ => none))) = true) (h30 : ((c.pinned == c.pinnedBy)) = true) (h31 : ((c.veiled == (fn.params.toList ++ s.plain.varTypes P ++ fn.resultTypes.toList).any (P.veiledRec ·))) = true) (h32 : (c.veiledFits P fn.params.toList (fn.params.toList ++ s.plain.varTypes P ++ fn.resultTypes.toList)) = true) : joinedFacts P f fn s c = true:=by
  unfold joinedFacts;exact (and2 (and2 (and2 (and2 (and2 (and2 (and2 (and2 (and2 (and2 (and2 (and2 (and2 (and2 (and2 (and2 (and2 (and2 (and2 (and2 (and2 (and2 (and2 (and2 (and2 (and2 (and2 (and2 (and2 (and2 (and2 h1 h2) h3) h4) h5) h6) h7) h8) h9) h10) h11) h12) h13) h14) h15) h16) h17) h18) h19) h20) h21) h22) h23) h24) h25) h26) h27) h28) h29) h30) h31) h32)
theorem closed_h2 : (laidOutB Tryz.pinned.checked.prog) = true:=by kernel_rfl
theorem closed_h3 : (mapsRowed Tryz.pinned.checked.prog) = true:=by kernel_rfl
theorem closed_h7 : ((Tryz.pinned.checked.prog.stops == [])) = true:=by kernel_rfl
theorem closed_h9 : ((Tryz.pinned.checked.prog.stopKnobs == [])) = true:=by kernel_rfl
theorem closed_h25 : (Tryz.pinned.checked.prog.stopsHeard) = true:=by kernel_rfl
theorem closed_h26 : (Tryz.pinned.checked.prog.mayEnter) = true:=by kernel_rfl
end Go.Proofs.YtlgnijhemfkflaaGreatDoor

namespace Go.Proofs
open Go.Shelf
def Tryz.growb_ren : Go.Shelf.Ren:=⟨fun | 4 => 296 | n => n,fun | 0 => 0 | 3 => 3 | 4 => 4 | 9 => 9 | 20 => 20 | 22 => 24 | 25 => 5 | n => n,fun | n => n⟩
theorem Tryz.growb_lays : Go.Proofs.Lays8.n4 Tryz.prog Tryz.growb_ren:={
  mixed:=by kernel_rfl
  f4 := ⟨"slices.Grow[[]byte,byte]", by decide, Tryz.func296.trans (congrArg some (by kernel_rfl))⟩
  t0:=Tryz.underlying0
  a0:=Tryz.isAgg0
  z0:=Tryz.sizeOf0
  v0:=Tryz.zeroValue0
  t3:=Tryz.underlying3
  a3:=Tryz.isAgg3
  z3:=Tryz.sizeOf3
  v3:=Tryz.zeroValue3
  t4:=Tryz.underlying4
  a4:=Tryz.isAgg4
  z4:=Tryz.sizeOf4
  v4:=Tryz.zeroValue4
  t9:=Tryz.underlying9
  a9:=Tryz.isAgg9
  z9:=Tryz.sizeOf9
  v9:=Tryz.zeroValue9
  t20:=Tryz.underlying20
  a20:=Tryz.isAgg20
  z20:=Tryz.sizeOf20
  v20:=Tryz.zeroValue20
  t22:=Tryz.underlying24
  a22:=Tryz.isAgg24
  z22:=Tryz.sizeOf24
  v22:=Tryz.zeroValue24 }
end Go.Proofs
namespace Go.Proofs.YtlgnijhemfkflaaGreatDoor
open Go.RowKit Go.Lib Go.Shelf


theorem pair_new (w : World) (a b : Value) (t : TypeId) : (w.alloc (.cells #[a,b] t)).cell? ⟨w.heap.size,0,none⟩ = some a ∧ (w.alloc (.cells #[a,b] t)).cell? ⟨w.heap.size,1,none⟩ = some b:=by
  have h:=one_newN w #[a,b] t;constructor <;> (unfold World.cell?; rw [h]; rfl)
theorem bgrow_any (n : Nat) (w : World) (hn : n ≤ 200000) : Calls Tryz.prog 296 #[.slice none 0 0,.int .i64 (n : Int)] w fun e w' => ∃ v,e = .returned v ∧ BOwns w' w.heap.size v 0 [] ∧ Below w.heap.size w w':=by
  by_cases h0 : n = 0
  · subst h0
    refine (Any8.slices_Grow_room Tryz.growb_lays none 0 0 0 w (Nat.le_refl _) (by decide) (by decide) (by decide)).mono ?_;rintro e w1 ⟨rfl,rfl⟩;exact ⟨_,rfl,⟨rfl,.inl ⟨rfl,rfl⟩⟩,Below.refl _ _⟩
  · obtain ⟨i0,hi,hz0,hz1,hz2⟩:=info_parts info_u8
    have h:=Any8.slices_Grow_grow Tryz.growb_lays i0 _ hi hz0 (by rw [hz1]; decide) none 0 0 n [] w (Nat.le_refl _) (by omega) (by rw [hz2]; omega) (by omega) (by simp) (fun _ => rfl) (fun a e => by cases e);refine h.mono ?_;rintro e w1 ⟨rfl,rfl⟩;refine ⟨_,rfl,⟨rfl,.inr ⟨w.heap.size,_,_,rfl,Nat.le_refl _,one_newN w.drew _ _,Nat.zero_le _,grownCap_le_maxLen _ _ _ _ (by unfold maxLen; omega),?_,by simp [u8s]⟩⟩,?_⟩
    · have hge:=grownCap_ge w (0 + n) 0 (Tryz.growb_ren.t 25)
      obtain ⟨G,hG⟩ : ∃ G,grownCap w (0 + n) 0 (Tryz.growb_ren.t 25) = G:=⟨_,rfl⟩;rw [hG] at hge ⊢;simp [Builtin.zeroCells,Value.cells];omega
    · exact (⟨rfl,rfl,rfl,Nat.le_refl _,fun _ _ => rfl⟩ : Below w.heap.size w w.drew).alloc (Nat.le_refl _) _
theorem bcat_any (A A' : Option Addr) (n c n' c' : Nat) (l l' : List UInt8) (g : Nat) (w : World) (H0 : w.cell? ⟨g,0,none⟩ = some (.slice A n c)) (H1 : w.cell? ⟨g,1,none⟩ = some (.slice A' n' c'))
    (h : Byt w (.slice A n c) l) (h' : Byt w (.slice A' n' c') l') (hl : l.length ≤ 100000) (hl' : l'.length ≤ 100000) :
    Calls Tryz.prog 278 #[.slice (some ⟨g,0,none⟩) 2 2] w fun e w' => ∃ v,e = .returned v ∧ BOwns w' w.heap.size v (l ++ l').length (l ++ l') ∧ Below w.heap.size w w':=by
  have e1:=h.len;have e2:=h'.len;subst e1 e2;have X:=zqh h;have Y:=zqh h';have hs : IntKind.i64.wrap ((l.length : Int) + (l'.length : Int)) = ((l.length + l'.length : Nat) : Int):=by
    rw [IntWalk.i64_in _ ⟨by omega,by omega⟩];simp
  have hp : decide (((l.length + l'.length : Nat) : Int) < 0) = false:=by simp; omega
  have hp0 : decide ((l.length : Int) < 0) = false:=by simp
  have HG:=zqh (bgrow_any (l.length + l'.length) w (by omega));clear h h';go_enter Tryz.func278,Tryz.ntmps278;(go_wp2_with fail);refine wp_loop_rounds 3 ?_
  iterate 3 (rw [rounds_succ]; go_wp2_with fail)
  refine HG.out.mono ?_;rintro e w1 ⟨v0,rfl,o0,b0⟩;have O0:=zqh o0;have B0:=zqh b0;have K0 : w1.cell? ⟨g,0,none⟩ = some (.slice A l.length c):=(b0.cell (p:=⟨g,0,none⟩) (World.block_lt_of_cell? _ _ H0)).trans H0;have X1:=zqh (X.out.keep b0);have HS:=zqh b0.size;have HH:=zqh H1;clear o0 b0 H0 H1 X HG;(go_wp2_with fail);refine wp_loop_rounds 3 ?_;rw [rounds_succ];(go_wp2_with (at_builtin; (refine wpList_bapp rfl _ _ rfl w.heap.size v0 0 [] rfl O0.out A l.length c l rfl X1.out (by omega) HS.out w B0.out (Nat.le_refl _) ?_; intro v1 w2 o1 b1 g1)));have O1:=zqh o1;have B1:=zqh b1;have K1 : w2.cell? ⟨g,1,none⟩ = some (.slice A' l'.length c'):=(b1.cell (p:=⟨g,1,none⟩) (World.block_lt_of_cell? _ _ HH.out)).trans HH.out;have Y1:=zqh (Y.out.keep b1);have HS1:=zqh b1.size;clear o1 b1 g1 K0 X1 O0 B0 HS;rw [rounds_succ];(go_wp2_with (at_builtin; (refine wpList_bapp rfl _ _ rfl w.heap.size v1 (0 + l.length) ([] ++ l) rfl O1.out A' l'.length c' l' rfl Y1.out (by omega) HS1.out w B1.out (Nat.le_refl _) ?_; intro v2 w3 o2 b2 g2)));have O2:=zqh o2;have B2:=zqh b2;clear o2 b2 g2 K1 Y1 O1 B1 HS1;rw [rounds_succ];(go_wp2_with fail);go_ret;refine ⟨v2,rfl,?_,B2.out⟩;have:=O2.out;rw [Nat.zero_add,List.nil_append,← List.length_append] at this;exact this
end Go.Proofs.YtlgnijhemfkflaaGreatDoor

namespace Go.Proofs.YtlgnijhemfkflaaGreatDoor
open Go.RowKit


theorem conv_in (t : List UInt8) (w : World) (ht : t.length ≤ 1000000) : ∃ c w',(convert 9 24 (.string (strB t))).run Tryz.prog w = .ok (.slice (some ⟨w.heap.size,0,none⟩) t.length c) w' ∧ Byt w' (.slice (some ⟨w.heap.size,0,none⟩) t.length c) t ∧ Below w.heap.size w w':=by
  have hsz : (strB t).size = t.length:=rfl;have h:=run_bytes_of_string (P:=Tryz.prog) w 9 24 5 (strB t) Tryz.underlying9 Tryz.underlying24 Tryz.underlying5;rw [hsz] at h;refine ⟨_,_,h,?_,?_⟩
  · refine ⟨_,_,rfl,grownCap_ge _ _ _ _,grownCap_le_maxLen _ _ _ _ (by unfold maxLen; omega),?_⟩
    refine .inr ⟨w.heap.size,0,rfl,by simp,fun j v hv => ?_⟩;have hb : ∀ (x : Obj),(w.drew.alloc x).heap[w.heap.size]? = some x:=fun x => by
      show (w.heap.push x)[w.heap.size]? = _;simp
    unfold World.cell?;rw [hb];show (bytesRow (strB t) _)[0 + j]? = some v;unfold bytesRow;rw [Nat.zero_add,Array.getElem?_append_left (by have:=(List.getElem?_eq_some_iff.1 hv).1; rw [u8s_len] at this; simpa [strB] using this)];simpa [strB,u8s] using hv
  · exact (Below.refl _ w).drew.alloc (Nat.le_refl _) _
def printC (l s : List UInt8) (co : Int) : Int:=if co - (l.length : Int) < (s.length : Int) then -260 else 0
def printL (l s : List UInt8) (co : Int) : List UInt8:=if co - (l.length : Int) < (s.length : Int) then l else l ++ s
theorem Byt.fresh {w1 w2 W : World} {B : Option Addr} {m d : Nat} {l : List UInt8} (h : Byt w1 (.slice B m d) l) (hf : ∀ b,B = some b → W.heap.size ≤ b.block) (hz : w1.heap.size ≤ w2.heap.size)
    (hs : ∀ g,W.heap.size ≤ g → g < w1.heap.size → w2.heap[g]? = w1.heap[g]?) : Byt w2 (.slice B m d) l:=by
  obtain ⟨A,c,e,h1,h2,h3⟩:=h;injection e with e1 e2 e3
  subst e1 e2 e3;refine ⟨_,_,rfl,h1,h2,?_⟩
  rcases h3 with h3 | ⟨g,o,e,hg,hc⟩
  · exact .inl h3
  · refine .inr ⟨g,o,e,by omega,fun j v hv => ?_⟩
    have:=hc j v hv;unfold World.cell? at this ⊢;rw [hs g (hf _ e) hg];exact this
end Go.Proofs.YtlgnijhemfkflaaGreatDoor

namespace Go.Proofs.YtlgnijhemfkflaaGreatDoor
open Go.RowKit


def codeB (n : Int) : Bool:=decide ((0 ≤ n ∧ n < 130) ∨ (256 ≤ n ∧ n ≤ 260) ∨ (300 ≤ n ∧ n < 337))
def kindV (m : PM) (L : Nat) (p : Int) : Int:=if cellC L p = 0 ∧ codeB (fetchF m p) = true then fetchF m p else 0
def kindC (m : PM) (L : Nat) (p : Int) : Int:=if cellC L p = 0 then (if codeB (fetchF m p) = true then 0 else -9) else cellC L p
end Go.Proofs.YtlgnijhemfkflaaGreatDoor

namespace Go.Proofs.YtlgnijhemfkflaaGreatDoor
open Go.RowKit


structure Sc (k j : VmK) : Prop where
  cm : k.cm = j.cm
  cd : k.cd = j.cd
  cr : k.cr = j.cr
  cw : k.cw = j.cw
  co : k.co = j.co
  here : k.here = j.here
  last : k.last = j.last
  qo : k.qo = j.qo
  free : k.free = j.free
  next : k.next = j.next
  arg : k.arg = j.arg
  self : k.self = j.self
  now : k.now = j.now
theorem Sc.refl (k : VmK) : Sc k k:=⟨rfl,rfl,rfl,rfl,rfl,rfl,rfl,rfl,rfl,rfl,rfl,rfl,rfl⟩
theorem Sc.symm {k j : VmK} (h : Sc k j) : Sc j k:=⟨h.cm.symm,h.cd.symm,h.cr.symm,h.cw.symm,h.co.symm,h.here.symm,h.last.symm,h.qo.symm,h.free.symm,h.next.symm,h.arg.symm,h.self.symm,h.now.symm⟩
theorem Sc.trans {k j i : VmK} (h : Sc k j) (g : Sc j i) : Sc k i:=⟨h.cm.trans g.cm,h.cd.trans g.cd,h.cr.trans g.cr,h.cw.trans g.cw,h.co.trans g.co,h.here.trans g.here,h.last.trans g.last,h.qo.trans g.qo,h.free.trans g.free,h.next.trans g.next,h.arg.trans g.arg,h.self.trans g.self,h.now.trans g.now⟩
theorem same_self {k j : VmK} (h : Sc k j) (L : VmL) : vSame k L j L = true:=by
  have h1 : confSame k j = true:=by unfold confSame; rw [decide_eq_true_eq]; exact ⟨h.cm,h.cd,h.cr,h.cw,h.co⟩
  have h2 : numsSame k j = true:=by unfold numsSame; rw [decide_eq_true_eq]; exact ⟨h.here,h.last,h.free,h.next,h.arg,h.self,h.now⟩
  unfold vSame;rw [h1,h2,fm_self,rq_self,hn_self,h.qo];simp [sameB,dSame,pSame]
def printV (k : VmK) (L : VmL) (s : List UInt8) : VmL:={ L with o:=printL L.o s k.co }
end Go.Proofs.YtlgnijhemfkflaaGreatDoor

namespace Go.Proofs.YtlgnijhemfkflaaGreatDoor
open Go.RowKit


theorem info_req : (Tryz.prog.info? 61).map (fun i => (i.zero,i.size,i.bytes)) = some (some (.agg #[.int .i64 0,.int .i64 0,.int .i64 0,.int .i64 0,.int .i64 0,.int .i64 0]),6,48):=by kernel_rfl
def rqs (l : List Rq) : List Value:=l.flatMap rqE
theorem rqs_cons (q : Rq) (l : List Rq) : rqs (q :: l) = .int .i64 q.kind :: .int .i64 q.arg :: .int .i64 q.hand :: .int .i64 q.rank :: .int .i64 q.delay :: .int .i64 q.id :: rqs l:=rfl
theorem rqs_len (l : List Rq) : (rqs l).length = l.length * 6:=by
  induction l with
  | nil => rfl
  | cons q l ih => rw [rqs_cons]; simp [ih]; omega
theorem rqs_one (l : List Rq) : ∀ v ∈ rqs l,v.oneCell' = true:=by
  intro v hv;unfold rqs at hv;rw [List.mem_flatMap] at hv;obtain ⟨q,_,hv⟩:=hv;unfold rqE at hv;simp at hv
  rcases hv with rfl | rfl | rfl | rfl | rfl | rfl <;> rfl
theorem rqs_app (a b : List Rq) : rqs (a ++ b) = rqs a ++ rqs b:=by simp [rqs]
abbrev QOwns (w : World) (base : Nat) (v : Value) (n : Nat) (l : List Rq) : Prop:=w.ownsRow base 61 6 v n (rqs l)
theorem QOwns.rqs {w : World} {base n : Nat} {v : Value} {l : List Rq} (h : QOwns w base v n l) : Rqs w v l:=by
  have hl:=h.1;rw [rqs_len] at hl;have hl : l.length = n:=by omega
  subst hl
  rcases h.2 with ⟨rfl,h0⟩ | ⟨g,cap,cur,rfl,_,hg,hnc,hcm,_,ht⟩
  · have : l = []:=List.eq_nil_of_length_eq_zero h0
    subst this;exact rws_nil _ w
  · refine ⟨some ⟨g,0,none⟩,cap,rfl,hnc,hcm,.inr ⟨g,0,rfl,(Array.getElem?_eq_some_iff.1 hg).1,fun j x hx => ?_⟩⟩
    have hx : (Go.Proofs.YtlgnijhemfkflaaGreatDoor.rqs l)[j]? = some x:=hx;rw [← ht,List.getElem?_take] at hx
    split at hx
    · rw [Nat.zero_add]
      simp [World.cell?,hg];simpa using hx
    · cases hx
theorem qown_from {w : World} {base e size n : Nat} {v : Value} {xs : List Value} (h : w.ownsRow base e size v n xs) : ∀ k,v.ownBlock = some k → base ≤ k:=fun k hk => (h.lt k hk).1
theorem rqs_newone (w : World) (q : Rq) : Rqs (w.alloc (.cells #[.int .i64 q.kind,.int .i64 q.arg,.int .i64 q.hand,.int .i64 q.rank,.int .i64 q.delay,.int .i64 q.id] 61)) (.slice (some ⟨w.heap.size,0,none⟩) 1 1) [q] :=
  ⟨_,_,rfl,Nat.le_refl _,by unfold maxLen; simp,lies_block (one_newN w _ _)⟩
theorem run_qapp {w : World} (ty : TypeId) {base n : Nat} {v : Value} {xs : List Rq} (hown : QOwns w base v n xs) {A : Option Addr} {m c : Nat} {ys : List Rq} (hr : Rqs w (.slice A m c) ys) (h63 : n + m ≤ 1000000) (hbase : base ≤ w.heap.size) :
    ∃ v' w',(Builtin.append_ #[33,33] ty #[v,.slice A m c]).run Tryz.prog w = .ok v' w' ∧ QOwns w' base v' (n + m) (xs ++ ys) ∧ w.grownBy w' v.ownBlock:=by
  obtain ⟨i0,hi,hz0,hz1,hz2⟩:=info_parts info_req;have h1:=hr.len;have h4 : Lies w A (Go.Proofs.YtlgnijhemfkflaaGreatDoor.rqs ys):=hr.lies;cases A with
  | some ad =>
    have hsrc : ∀ j u,(rqs ys)[j]? = some u → w.cell? (ad.add j) = some u:=by
      intro j u hu
      rcases h4 with h4 | ⟨g,o,e,_,hc⟩
      · rw [h4] at hu; simp at hu
      · injection e with e
        rw [e,add_at];exact hc j u hu
    obtain ⟨v',w',ha,hb,hc,_⟩:=run_append_own (P:=Tryz.prog) w base 33 ty 61 i0 (.agg #[.int .i64 0,.int .i64 0,.int .i64 0,.int .i64 0,.int .i64 0,.int .i64 0]) 6 48 Tryz.underlying33 hi hz0 hz1 hz2 rfl (by decide) v n (rqs xs) hown ad m c (rqs ys) (by rw [rqs_len,h1]) hsrc (rqs_one ys) (by unfold maxLen; omega) (by omega) hbase;exact ⟨v',w',ha,by have e:=rqs_app xs ys; unfold QOwns; rw [e]; exact hb,hc⟩
  | none =>
    have hnil : ys = []:=by
      rcases h4 with h | ⟨_,_,h,_⟩
      · have:=congrArg List.length h
        rw [rqs_len] at this;have h0 : ys.length * 6 = 0:=this;exact List.eq_nil_of_length_eq_zero (by omega)
      · cases h
    subst hnil;have hm : m = 0:=by rw [← h1]; rfl
    subst hm;refine ⟨v,w,?_,by simpa using hown,World.grownBy.refl w _⟩
    rcases hown.2 with ⟨rfl,rfl⟩ | ⟨g,cap,cur,rfl,_,_,hnc,_⟩
    · simp [Builtin.append_,run_underlying Tryz.underlying33,sizeOf,typeInfo,hi,Builtin.lenOf,Builtin.firstCells]
    · simp [Builtin.append_,run_underlying Tryz.underlying33,sizeOf,typeInfo,hi,Builtin.lenOf,Builtin.firstCells,hnc,storeCells]
theorem qapp_below {w0 w w' : World} {base n : Nat} {v : Value} {xs : List Rq} (hown : QOwns w base v n xs) (hb : Below w0.heap.size w0 w) (hg : w.grownBy w' v.ownBlock) (hB : w0.heap.size ≤ base) : Below w0.heap.size w0 w' :=
  hb.grown hg hb.size (fun k hk => Nat.le_trans hB (qown_from hown k hk))
theorem wp_qapp {o : Oper} {a : Act} {K : Act → World → Prop} {Q : Exit → Act → World → Prop} {w : World} (s x : Operand)
    (ho : o.op = .call { callee:=.builtin .append,args:=#[s,x],argTypes:=#[33,33] })
    (base : Nat) (v : Value) (n : Nat) (xs : List Rq) (hs : a.eval s = v) (hown : QOwns w base v n xs)
    (A : Option Addr) (m c : Nat) (ys : List Rq) (hx : a.eval x = .slice A m c) (hr : Rqs w (.slice A m c) ys) (h63 : n + m ≤ 1000000) (hbase : base ≤ w.heap.size)
    (w0 : World) (hb : Below w0.heap.size w0 w) (hB : w0.heap.size ≤ base)
    (h : ∀ v' w',QOwns w' base v' (n + m) (xs ++ ys) → Below w0.heap.size w0 w' → w.grownBy w' v.ownBlock → K (a.put o.dst v') w') : o.wp Tryz.prog a w K Q:=by
  obtain ⟨v',w',hr,h2,h3⟩:=run_qapp o.type hown hr h63 hbase;unfold Oper.wp execOp;simp only [ho,resolve,invoke,builtin,Sem.run_bind,Sem.run_pure,Result.andThen_ok,List.map_toArray,List.map_cons,List.map_nil,hs,hx,hr];exact h v' w' h2 (qapp_below hown hb h3 hB) h3
theorem wpList_qapp {ops : Array Oper} {rest : List Oper} {o : Oper} {a : Act} {Q : Exit → Act → World → Prop} {w : World} (hgd : o.guard = none) (s x : Operand)
    (ho : o.op = .call { callee:=.builtin .append,args:=#[s,x],argTypes:=#[33,33] })
    (base : Nat) (v : Value) (n : Nat) (xs : List Rq) (hs : a.eval s = v) (hown : QOwns w base v n xs)
    (A : Option Addr) (m c : Nat) (ys : List Rq) (hx : a.eval x = .slice A m c) (hr : Rqs w (.slice A m c) ys) (h63 : n + m ≤ 1000000) (hbase : base ≤ w.heap.size)
    (w0 : World) (hb : Below w0.heap.size w0 w) (hB : w0.heap.size ≤ base)
    (h : ∀ v' w',QOwns w' base v' (n + m) (xs ++ ys) → Below w0.heap.size w0 w' → w.grownBy w' v.ownBlock → wpList Tryz.prog ops Q rest (a.put o.dst v') w') : wpList Tryz.prog ops Q (o :: rest) a w :=
  wpList_plain hgd fun _ hK => wp_qapp s x ho base v n xs hs hown A m c ys hx hr h63 hbase w0 hb hB fun v' w' h2 h3 h4 => hK _ _ (h v' w' h2 h3 h4)
end Go.Proofs.YtlgnijhemfkflaaGreatDoor

namespace Go.Proofs
open Go.Shelf
def Tryz.growi_ren : Go.Shelf.Ren:=⟨fun | 4 => 284 | n => n,fun | 0 => 0 | 3 => 3 | 4 => 4 | 9 => 9 | 20 => 20 | 22 => 28 | 25 => 3 | n => n,fun | n => n⟩
theorem Tryz.growi_lays : Go.Proofs.Lays8.n4 Tryz.prog Tryz.growi_ren:={
  mixed:=by kernel_rfl
  f4 := ⟨"slices.Grow[[]int,int]", by decide, Tryz.func284.trans (congrArg some (by kernel_rfl))⟩
  t0:=Tryz.underlying0
  a0:=Tryz.isAgg0
  z0:=Tryz.sizeOf0
  v0:=Tryz.zeroValue0
  t3:=Tryz.underlying3
  a3:=Tryz.isAgg3
  z3:=Tryz.sizeOf3
  v3:=Tryz.zeroValue3
  t4:=Tryz.underlying4
  a4:=Tryz.isAgg4
  z4:=Tryz.sizeOf4
  v4:=Tryz.zeroValue4
  t9:=Tryz.underlying9
  a9:=Tryz.isAgg9
  z9:=Tryz.sizeOf9
  v9:=Tryz.zeroValue9
  t20:=Tryz.underlying20
  a20:=Tryz.isAgg20
  z20:=Tryz.sizeOf20
  v20:=Tryz.zeroValue20
  t22:=Tryz.underlying28
  a22:=Tryz.isAgg28
  z22:=Tryz.sizeOf28
  v22:=Tryz.zeroValue28 }
def Tryz.growq_ren : Go.Shelf.Ren:=⟨fun | 4 => 303 | n => n,fun | 0 => 0 | 3 => 3 | 4 => 4 | 9 => 9 | 20 => 20 | 22 => 33 | 25 => 61 | n => n,fun | n => n⟩
theorem Tryz.growq_lays : Go.Proofs.Lays8.n4 Tryz.prog Tryz.growq_ren:={
  mixed:=by kernel_rfl
  f4 := ⟨"slices.Grow[[]detent/api.Req,detent/api.Req]", by decide, Tryz.func303.trans (congrArg some (by kernel_rfl))⟩
  t0:=Tryz.underlying0
  a0:=Tryz.isAgg0
  z0:=Tryz.sizeOf0
  v0:=Tryz.zeroValue0
  t3:=Tryz.underlying3
  a3:=Tryz.isAgg3
  z3:=Tryz.sizeOf3
  v3:=Tryz.zeroValue3
  t4:=Tryz.underlying4
  a4:=Tryz.isAgg4
  z4:=Tryz.sizeOf4
  v4:=Tryz.zeroValue4
  t9:=Tryz.underlying9
  a9:=Tryz.isAgg9
  z9:=Tryz.sizeOf9
  v9:=Tryz.zeroValue9
  t20:=Tryz.underlying20
  a20:=Tryz.isAgg20
  z20:=Tryz.sizeOf20
  v20:=Tryz.zeroValue20
  t22:=Tryz.underlying33
  a22:=Tryz.isAgg33
  z22:=Tryz.sizeOf33
  v22:=Tryz.zeroValue33 }
end Go.Proofs
namespace Go.Proofs.YtlgnijhemfkflaaGreatDoor
open Go.RowKit Go.Lib Go.Shelf


theorem igrow_any (n : Nat) (w : World) (hn : n ≤ 200000) : Calls Tryz.prog 284 #[.slice none 0 0,.int .i64 (n : Int)] w fun e w' => ∃ v,e = .returned v ∧ Owns w' w.heap.size v 0 [] ∧ Below w.heap.size w w':=by
  by_cases h0 : n = 0
  · subst h0
    refine (Any8.slices_Grow_room Tryz.growi_lays none 0 0 0 w (Nat.le_refl _) (by decide) (by decide) (by decide)).mono ?_;rintro e w1 ⟨rfl,rfl⟩;exact ⟨_,rfl,⟨rfl,.inl ⟨rfl,rfl⟩⟩,Below.refl _ _⟩
  · obtain ⟨i0,hi,hz0,hz1,hz2⟩:=info_parts info_int
    have h:=Any8.slices_Grow_grow Tryz.growi_lays i0 _ hi hz0 (by rw [hz1]; decide) none 0 0 n [] w (Nat.le_refl _) (by omega) (by rw [hz2]; omega) (by omega) (by simp) (fun _ => rfl) (fun a e => by cases e);refine h.mono ?_;rintro e w1 ⟨rfl,rfl⟩;refine ⟨_,rfl,⟨rfl,.inr ⟨w.heap.size,_,_,rfl,Nat.le_refl _,one_newN w.drew _ _,Nat.zero_le _,grownCap_le_maxLen _ _ _ _ (by unfold maxLen; omega),?_,by simp [ints]⟩⟩,?_⟩
    · have hge:=grownCap_ge w (0 + n) 0 (Tryz.growi_ren.t 25)
      obtain ⟨G,hG⟩ : ∃ G,grownCap w (0 + n) 0 (Tryz.growi_ren.t 25) = G:=⟨_,rfl⟩;rw [hG] at hge ⊢;simp [Builtin.zeroCells,Value.cells];omega
    · exact (⟨rfl,rfl,rfl,Nat.le_refl _,fun _ _ => rfl⟩ : Below w.heap.size w w.drew).alloc (Nat.le_refl _) _
theorem icat_any (A A' : Option Addr) (n c n' c' : Nat) (l l' : List Int) (g : Nat) (w : World) (H0 : w.cell? ⟨g,0,none⟩ = some (.slice A n c)) (H1 : w.cell? ⟨g,1,none⟩ = some (.slice A' n' c'))
    (h : Row w A n c l) (h' : Row w A' n' c' l') (hl : l.length ≤ 100000) (hl' : l'.length ≤ 100000) :
    Calls Tryz.prog 242 #[.slice (some ⟨g,0,none⟩) 2 2] w fun e w' => ∃ v,e = .returned v ∧ Owns w' w.heap.size v (l ++ l').length (l ++ l') ∧ Below w.heap.size w w':=by
  have e1:=h.1;have e2:=h'.1;subst e1 e2;have X:=zqh h;have Y:=zqh h';have hs : IntKind.i64.wrap ((l.length : Int) + (l'.length : Int)) = ((l.length + l'.length : Nat) : Int):=by
    rw [IntWalk.i64_in _ ⟨by omega,by omega⟩];simp
  have hp : decide (((l.length + l'.length : Nat) : Int) < 0) = false:=by simp; omega
  have hp0 : decide ((l.length : Int) < 0) = false:=by simp
  have HG:=zqh (igrow_any (l.length + l'.length) w (by omega));clear h h';go_enter Tryz.func242,Tryz.ntmps242;(go_wp2_with fail);refine wp_loop_rounds 3 ?_
  iterate 3 (rw [rounds_succ]; go_wp2_with fail)
  refine HG.out.mono ?_;rintro e w1 ⟨v0,rfl,o0,b0⟩;have O0:=zqh o0;have B0:=zqh b0;have K0 : w1.cell? ⟨g,0,none⟩ = some (.slice A l.length c):=(b0.cell (p:=⟨g,0,none⟩) (World.block_lt_of_cell? _ _ H0)).trans H0;have X1:=zqh (X.out.keep b0);have HS:=zqh b0.size;have HH:=zqh H1;clear o0 b0 H0 H1 X HG;(go_wp2_with fail);refine wp_loop_rounds 3 ?_;rw [rounds_succ];(go_wp2_with (at_builtin; (refine wpList_app rfl _ _ rfl w.heap.size v0 0 [] rfl O0.out A l.length c l rfl X1.out (by omega) HS.out w B0.out (Nat.le_refl _) ?_; intro v1 w2 o1 b1)));have O1:=zqh o1;have B1:=zqh b1;have K1 : w2.cell? ⟨g,1,none⟩ = some (.slice A' l'.length c'):=(b1.cell (p:=⟨g,1,none⟩) (World.block_lt_of_cell? _ _ HH.out)).trans HH.out;have Y1:=zqh (Y.out.keep b1);have HS1:=zqh b1.size;clear o1 b1 K0 X1 O0 B0 HS;rw [rounds_succ];(go_wp2_with (at_builtin; (refine wpList_app rfl _ _ rfl w.heap.size v1 (0 + l.length) ([] ++ l) rfl O1.out A' l'.length c' l' rfl Y1.out (by omega) HS1.out w B1.out (Nat.le_refl _) ?_; intro v2 w3 o2 b2)));have O2:=zqh o2;have B2:=zqh b2;clear o2 b2 K1 Y1 O1 B1 HS1;rw [rounds_succ];(go_wp2_with fail);go_ret;refine ⟨v2,rfl,?_,B2.out⟩;have:=O2.out;rw [Nat.zero_add,List.nil_append,← List.length_append] at this;exact this
theorem qgrow_any (n : Nat) (w : World) (hn : n ≤ 200000) : Calls Tryz.prog 303 #[.slice none 0 0,.int .i64 (n : Int)] w fun e w' => ∃ v,e = .returned v ∧ QOwns w' w.heap.size v 0 [] ∧ Below w.heap.size w w':=by
  by_cases h0 : n = 0
  · subst h0
    refine (Any8.slices_Grow_room Tryz.growq_lays none 0 0 0 w (Nat.le_refl _) (by decide) (by decide) (by decide)).mono ?_;rintro e w1 ⟨rfl,rfl⟩;exact ⟨_,rfl,⟨rfl,.inl ⟨rfl,rfl⟩⟩,Below.refl _ _⟩
  · obtain ⟨i0,hi,hz0,hz1,hz2⟩:=info_parts info_req
    have h:=Any8.slices_Grow_grow Tryz.growq_lays i0 _ hi hz0 (by rw [hz1]; decide) none 0 0 n [] w (Nat.le_refl _) (by omega) (by rw [hz2]; omega) (by omega) (by simp) (fun _ => rfl) (fun a e => by cases e);refine h.mono ?_;rintro e w1 ⟨rfl,rfl⟩;refine ⟨_,rfl,⟨rfl,.inr ⟨w.heap.size,_,_,rfl,Nat.le_refl _,one_newN w.drew _ _,Nat.zero_le _,grownCap_le_maxLen _ _ _ _ (by unfold maxLen; omega),?_,by simp [rqs]⟩⟩,?_⟩
    · have hge:=grownCap_ge w (0 + n) 0 (Tryz.growq_ren.t 25)
      obtain ⟨G,hG⟩ : ∃ G,grownCap w (0 + n) 0 (Tryz.growq_ren.t 25) = G:=⟨_,rfl⟩;rw [hG] at hge ⊢;simp [Builtin.zeroCells,Value.cells];omega
    · exact (⟨rfl,rfl,rfl,Nat.le_refl _,fun _ _ => rfl⟩ : Below w.heap.size w w.drew).alloc (Nat.le_refl _) _
theorem qcat_any (A A' : Option Addr) (n c n' c' : Nat) (l l' : List Rq) (g : Nat) (w : World) (H0 : w.cell? ⟨g,0,none⟩ = some (.slice A n c)) (H1 : w.cell? ⟨g,1,none⟩ = some (.slice A' n' c'))
    (h : Rqs w (.slice A n c) l) (h' : Rqs w (.slice A' n' c') l') (hl : l.length ≤ 100000) (hl' : l'.length ≤ 100000) :
    Calls Tryz.prog 289 #[.slice (some ⟨g,0,none⟩) 2 2] w fun e w' => ∃ v,e = .returned v ∧ QOwns w' w.heap.size v (l ++ l').length (l ++ l') ∧ Below w.heap.size w w':=by
  have e1:=h.len;have e2:=h'.len;subst e1 e2;have X:=zqh h;have Y:=zqh h';have hs : IntKind.i64.wrap ((l.length : Int) + (l'.length : Int)) = ((l.length + l'.length : Nat) : Int):=by
    rw [IntWalk.i64_in _ ⟨by omega,by omega⟩];simp
  have hp : decide (((l.length + l'.length : Nat) : Int) < 0) = false:=by simp; omega
  have hp0 : decide ((l.length : Int) < 0) = false:=by simp
  have HG:=zqh (qgrow_any (l.length + l'.length) w (by omega));clear h h';go_enter Tryz.func289,Tryz.ntmps289;(go_wp2_with fail);refine wp_loop_rounds 3 ?_
  iterate 3 (rw [rounds_succ]; go_wp2_with fail)
  refine HG.out.mono ?_;rintro e w1 ⟨v0,rfl,o0,b0⟩;have O0:=zqh o0;have B0:=zqh b0;have K0 : w1.cell? ⟨g,0,none⟩ = some (.slice A l.length c):=(b0.cell (p:=⟨g,0,none⟩) (World.block_lt_of_cell? _ _ H0)).trans H0;have X1:=zqh (X.out.keep b0);have HS:=zqh b0.size;have HH:=zqh H1;clear o0 b0 H0 H1 X HG;(go_wp2_with fail);refine wp_loop_rounds 3 ?_;rw [rounds_succ];(go_wp2_with (at_builtin; (refine wpList_qapp rfl _ _ rfl w.heap.size v0 0 [] rfl O0.out A l.length c l rfl X1.out (by omega) HS.out w B0.out (Nat.le_refl _) ?_; intro v1 w2 o1 b1 g1)));have O1:=zqh o1;have B1:=zqh b1;have K1 : w2.cell? ⟨g,1,none⟩ = some (.slice A' l'.length c'):=(b1.cell (p:=⟨g,1,none⟩) (World.block_lt_of_cell? _ _ HH.out)).trans HH.out;have Y1:=zqh (Y.out.keep b1);have HS1:=zqh b1.size;clear o1 b1 g1 K0 X1 O0 B0 HS;rw [rounds_succ];(go_wp2_with (at_builtin; (refine wpList_qapp rfl _ _ rfl w.heap.size v1 (0 + l.length) ([] ++ l) rfl O1.out A' l'.length c' l' rfl Y1.out (by omega) HS1.out w B1.out (Nat.le_refl _) ?_; intro v2 w3 o2 b2 g2)));have O2:=zqh o2;have B2:=zqh b2;clear o2 b2 g2 K1 Y1 O1 B1 HS1;rw [rounds_succ];(go_wp2_with fail);go_ret;refine ⟨v2,rfl,?_,B2.out⟩;have:=O2.out;rw [Nat.zero_add,List.nil_append,← List.length_append] at this;exact this
end Go.Proofs.YtlgnijhemfkflaaGreatDoor
