/- Part 20. -/
import Derived.Test.YtcmldhjicjmmgaaGreatDoorXlAS
set_option linter.unusedVariables false
set_option linter.unusedSimpArgs false
set_option maxRecDepth 100000
set_option maxHeartbeats 4000000

namespace Go.Proofs.YtcmldhjicjmmgaaGreatDoor
open Go.RowKit


structure Ok (k : VmK) (L : VmL) : Prop where
  m1 : 2048 ≤ L.m.1.length
  m2 : L.m.1.length ≤ 8192
  m3 : L.m.2.length ≤ 900
  d1 : L.d.length ≤ 400
  dr : ∀ x ∈ L.d,cellR x
  o1 : L.o.length ≤ 60000
  q1 : L.q.length ≤ 900
  e1 : L.e.length ≤ 100
  h1 : L.h.length ≤ 1000
  co0 : 0 ≤ k.co
  co1 : k.co ≤ 65536
  cd0 : 0 ≤ k.cd
  cd1 : k.cd ≤ 256
  hr0 : 1368 ≤ k.here
  hr1 : k.here ≤ (L.m.1.length : Int)
  cm : k.cm = (L.m.1.length : Int)
structure MLoc (B : Nat) (j k : VmK) : Prop where
  p : NewA B j.pA j.pn k.pA k.pn
  d : NewA B j.dA j.dn k.dA k.dn
  e : NewA B j.eA j.en k.eA k.en
  r : j.rA = k.rA ∧ j.rn = k.rn
  f : j.fA = k.fA ∧ j.fn = k.fn
  w : j.wA = k.wA ∧ j.wn = k.wn
  h : j.hA = k.hA ∧ j.hn = k.hn
theorem MLoc.refl (B : Nat) (k : VmK) : MLoc B k k:=⟨.refl _ _ _,.refl _ _ _,.refl _ _ _,⟨rfl,rfl⟩,⟨rfl,rfl⟩,⟨rfl,rfl⟩,⟨rfl,rfl⟩⟩
theorem MLoc.le {B B' : Nat} {j k : VmK} (h : MLoc B j k) (hb : B' ≤ B) : MLoc B' j k:=⟨h.p.le hb,h.d.le hb,h.e.le hb,h.r,h.f,h.w,h.h⟩
theorem lies_across {w u u' : World} {A A0 : Option Addr} {n n0 s B : Nat} {xs xs0 : List Value} (hs : 0 < s) (h0 : Lies w A0 xs0) (h : Lies u A xs) (e0 : xs0.length = n0 * s) (e1 : xs.length = n * s) (l : NewA B A n A0 n0)
    (hz : u.heap.size ≤ u'.heap.size) (hk : ∀ g,(g < w.heap.size ∨ B ≤ g) → g < u.heap.size → u'.heap[g]? = u.heap[g]?) : Lies u' A xs:=by
  rcases h with h | ⟨g,o,e,hg,hc⟩
  · exact .inl h
  · by_cases hx : xs = []
    · exact .inl hx
    · have hgg : g < w.heap.size ∨ B ≤ g:=by
        rcases l with ⟨rfl,rfl⟩ | l
        · rcases h0 with h0 | ⟨g',o',e',hg',_⟩
          · rw [h0] at e0
            have : xs.length = 0:=by rw [e1,← e0]; rfl
            exact absurd (List.eq_nil_of_length_eq_zero this) hx
          · rw [e] at e'
            injection e' with e'
            injection e' with e1
            exact .inl (e1 ▸ hg')
        · exact .inr (l _ e)
      refine .inr ⟨g,o,e,Nat.lt_of_lt_of_le hg hz,fun j v hv => ?_⟩;have:=hc j v hv;unfold World.cell? at this ⊢;rw [hk g hgg hg];exact this
def NoU8 (w : World) (g : Nat) : Prop:=∀ o x,w.cell? ⟨g,o,none⟩ ≠ some (.int .u8 x)
theorem vbox_nou8 {w : World} {b : Nat} {k : VmK} (h : VBox w b k) : NoU8 w b:=by
  intro o x e;unfold VBox at h;unfold World.cell? at e;rw [h] at e;have e' : (vmC k)[o]? = some (.int .u8 x):=by simpa using e
  have hm:=Array.mem_of_getElem? e';simp at hm
theorem byt_across {u u' : World} {v : Value} {l : List UInt8} (h : Byt u v l) (hz : u.heap.size ≤ u'.heap.size) (hv : ∀ g,g < u.heap.size → u'.heap[g]? = u.heap[g]? ∨ NoU8 u g) : Byt u' v l:=by
  obtain ⟨A,c,e1,e2,e3,h4⟩:=h;refine ⟨A,c,e1,e2,e3,?_⟩
  rcases h4 with h4 | ⟨g,o,e,hg,hc⟩
  · exact .inl h4
  · rcases hv g hg with hg2 | hz2
    · refine .inr ⟨g,o,e,Nat.lt_of_lt_of_le hg hz,fun j v hv => ?_⟩
      have:=hc j v hv;unfold World.cell? at this ⊢;rw [hg2];exact this
    · cases l with
      | nil => exact .inl rfl
      | cons a l => exact absurd (hc 0 _ rfl) (hz2 _ _)
theorem rws_across {α : Type} {enc : α → List Value} {w u u' : World} {A A0 : Option Addr} {n n0 c c0 s B : Nat} {l l0 : List α} (hs : ∀ x,(enc x).length = s) (h9 : 0 < s) (h0 : Rws enc w (.slice A0 n0 c0) l0) (h : Rws enc u (.slice A n c) l) (lo : NewA B A n A0 n0)
    (hz : u.heap.size ≤ u'.heap.size) (hk : ∀ g,(g < w.heap.size ∨ B ≤ g) → g < u.heap.size → u'.heap[g]? = u.heap[g]?) : Rws enc u' (.slice A n c) l:=by
  have hl:=h.len;have gl:=h0.len;have k1 : ∀ q : List α,(q.flatMap enc).length = q.length * s:=by
    intro q;rw [List.length_flatMap,show (q.map fun x => (enc x).length) = q.map fun _ => s from List.map_congr_left fun x _ => hs x,List.map_const',List.sum_replicate_nat]
  have h4:=lies_across h9 h0.lies h.lies (n0:=n0) (n:=n) (by rw [k1,gl]) (by rw [k1,hl]) lo hz hk;obtain ⟨A',c',e1,e2,e3,_⟩:=h
  exact ⟨A',c',e1,e2,e3,by
    injection e1 with e1 _ _
    subst e1
    exact h4⟩
theorem IsVm.across {w u u' : World} {k j : VmK} {L0 L : VmL} {B : Nat} (h0 : IsVm w k L0) (h : IsVm u j L) (l : MLoc B j k) (hz : u.heap.size ≤ u'.heap.size)
    (hk : ∀ g,(g < w.heap.size ∨ B ≤ g) → g < u.heap.size → u'.heap[g]? = u.heap[g]?) (hv : ∀ g,g < u.heap.size → u'.heap[g]? = u.heap[g]? ∨ NoU8 u g) : IsVm u' j L:=by
  refine ⟨?_,?_,?_,?_,?_,byt_across h.o hz hv,byt_across h.q hz hv,?_,?_⟩
  · obtain ⟨b,o,e,hb,A,c,qs,h1,h2,h3,h4,h5⟩:=h.m
    obtain ⟨b0,o0,f,_,A0,c0,qs0,g1,_,_,g4,g5⟩:=h0.m;injection e with e
    injection f with f
    simp at e f;obtain ⟨rfl,rfl⟩:=e;obtain ⟨rfl,rfl⟩:=f;injection h1 with h1 hn hc
    injection g1 with g1 gn gc
    subst h1 g1;refine ⟨_,_,rfl,byt_across hb hz hv,_,_,qs,by rw [hn,hc],h2,h3,lies_across (s:=2) (by decide) g4 h4 (n0:=k.pn) (n:=j.pn) (by rw [pc_len,g5.1,gn]; omega) (by rw [pc_len,h5.1,hn]; omega) l.p hz hk,h5.1,fun i q p hq hp => ⟨(h5.2 i q p hq hp).1,byt_across (h5.2 i q p hq hp).2 hz hv⟩⟩
  · obtain ⟨e1,e2,e3,e4⟩:=h.d
    obtain ⟨f1,_,_,f4⟩:=h0.d;exact ⟨e1,e2,e3,lies_across (s:=1) (by decide) f4 e4 (n0:=k.dn) (n:=j.dn) (by rw [ints_len,f1,Nat.mul_one]) (by rw [ints_len,e1,Nat.mul_one]) l.d hz hk⟩
  · obtain ⟨e1,e2,e3,e4⟩:=h.r
    obtain ⟨f1,_,_,f4⟩:=h0.r;exact ⟨e1,e2,e3,lies_across (B:=B) (s:=1) (by decide) f4 e4 (n0:=k.rn) (n:=j.rn) (by rw [ints_len,f1,Nat.mul_one]) (by rw [ints_len,e1,Nat.mul_one]) (.inl l.r) hz hk⟩
  · exact rws_across (s:=3) (fun _ => rfl) (by decide) h0.f h.f (.inl l.f) hz hk
  · have hh:=h.dict
    have hl:=hh.len;have gl:=h0.dict.len;obtain ⟨A,c,e1,e2,e3,_⟩:=hh
    exact ⟨A,c,e1,e2,e3,by
      injection e1 with e1 _ _
      subst e1
      exact lies_across (B:=B) (s:=3) (by decide) h0.dict.lies h.dict.lies (n0:=k.wn) (n:=j.wn) (by rw [wds_len,gl]) (by rw [wds_len,hl]) (.inl l.w) hz hk⟩
  · exact rws_across (s:=6) (fun _ => rfl) (by decide) h0.e h.e l.e hz hk
  · exact rws_across (s:=4) (fun _ => rfl) (by decide) h0.h h.h (.inl l.h) hz hk
structure Ex (X : Nat → Prop) (w V : World) : Prop where
  size : w.heap.size ≤ V.heap.size
  same : ∀ g,g < w.heap.size → ¬ X g → V.heap[g]? = w.heap[g]?
theorem Ex.refl (X : Nat → Prop) (w : World) : Ex X w w:=⟨Nat.le_refl _,fun _ _ _ => rfl⟩
theorem Ex.below {X : Nat → Prop} {w u V : World} (h : Ex X w u) (b : Below u.heap.size u V) : Ex X w V:=⟨Nat.le_trans h.size b.size,fun g hg hx => (b.block g (Nat.lt_of_lt_of_le hg h.size)).trans (h.same g hg hx)⟩
theorem Ex.row {X : Nat → Prop} {w u : World} (h : Ex X w u) {b : Nat} (hb : X b) (cs : Array Value) : Ex X w (u.setRow b cs):=⟨by rw [size_setRow]; exact h.size,fun g hg hx => by
  have e : g ≠ b:=fun e => hx (e ▸ hb)
  rw [setRow_other u b g cs (by omega)]
  exact h.same g hg hx⟩
theorem Ex.cell {X : Nat → Prop} {w u : World} (h : Ex X w u) {b i : Nat} (hb : X b) (v : Value) : Ex X w (u.setCell ⟨b,i,none⟩ v):=⟨by simp [World.setCell]; exact h.size,fun g hg hx => by
  have e : g ≠ b:=fun e => hx (e ▸ hb)
  rw [Below.heap_setCell u ⟨b,i,none⟩ v g e]
  exact h.same g hg hx⟩
theorem IsVm.ex {w u V : World} {k j : VmK} {L0 L : VmL} {B : Nat} {X : Nat → Prop} (h0 : IsVm w k L0) (h : IsVm u j L) (l : MLoc B j k) (x : Ex X u V) (hX : ∀ g,g < u.heap.size → X g → w.heap.size ≤ g ∧ g < B ∧ NoU8 u g) : IsVm V j L :=
  h0.across h l x.size (fun g hg hl => x.same g hl fun hx => by have:=hX g hl hx; omega) fun g hl => by
    by_cases hx : X g
    · exact .inr (hX g hl hx).2.2
    · exact .inl (x.same g hl hx)
theorem RowN.keep {b : Nat} {w w' : World} {A : Option Addr} {n c : Nat} {l : List Int} (h : RowN b w A n c l) (k : Below w.heap.size w w') : RowN b w' A n c l:=⟨h.1.keep k,h.2⟩
theorem RowN.at_ {B : Nat} {u u' : World} {A : Option Addr} {n c : Nat} {l : List Int} (h : RowN B u A n c l) (hz : u.heap.size ≤ u'.heap.size) (hk : ∀ g,B ≤ g → u'.heap[g]? = u.heap[g]?) : RowN B u' A n c l:=by
  obtain ⟨⟨e1,e2,e3,h4⟩,h5⟩:=h;refine ⟨⟨e1,e2,e3,?_⟩,h5⟩
  rcases h4 with h4 | ⟨g,o,e,hg,hc⟩
  · exact .inl h4
  · refine .inr ⟨g,o,e,Nat.lt_of_lt_of_le hg hz,fun j v hv => ?_⟩
    have:=hc j v hv;unfold World.cell? at this ⊢;rw [hk g (h5 _ e)];exact this
theorem RowN.row_set {B b : Nat} {u : World} {A : Option Addr} {n c : Nat} {l : List Int} (h : RowN B u A n c l) (hb : b < B) (cs : Array Value) : RowN B (u.setRow b cs) A n c l:=h.at_ (by rw [size_setRow]; exact Nat.le_refl _) fun g hg => setRow_other u b g cs (by omega)
theorem rowN_nil (b : Nat) (w : World) : RowN b w none 0 0 []:=⟨row_nil w,fun q e => by cases e⟩
theorem rowN_one (w : World) (x : Int) : RowN w.heap.size (w.alloc (.cells #[.int .i64 x] 3)) (some ⟨w.heap.size,0,none⟩) 1 1 [x]:=⟨one_row w x,fun q e => by cases e; exact Nat.le_refl _⟩
def ActOut (E : Eff) (k : VmK) (w : World) (e : Ending) (w' : World) : Prop:=∃ j B m d,e = .returned (.tuple #[vmV j,.slice B m d,.int .i64 E.c]) ∧ (E.c = 0 → IsVm w' j E.L ∧ Sc j E.K ∧ MLoc w.heap.size j k ∧ RowN w.heap.size w' B m d E.o) ∧ Below w.heap.size w w'
def TurnOut (E : Eff) (k : VmK) (w : World) (e : Ending) (w' : World) : Prop:=∃ j,e = .returned (.tuple #[vmV j,.int .i64 E.c]) ∧ (E.c = 0 → IsVm w' j E.L ∧ Sc j E.K ∧ MLoc w.heap.size j k) ∧ Below w.heap.size w w'
def DeedOut (E : Eff) (k : VmK) (w : World) (e : Ending) (w' : World) : Prop:=∃ j,e = .returned (.tuple #[vmV j,.int .i64 E.c]) ∧ IsVm w' j E.L ∧ Sc j E.K ∧ MLoc w.heap.size j k ∧ Below w.heap.size w w'
abbrev Ent (g : FuncId) : Prop:=∀ args w,(callFunc g args).run Tryz.prog w = .ok (.enter g args) w
structure Kp (W w : World) : Prop where
  size : W.heap.size ≤ w.heap.size
  cell : ∀ {p : Addr},p.block < W.heap.size → w.cell? p = W.cell? p
theorem kp_of {W w : World} (b : Below W.heap.size W w) : Kp W w:=⟨b.size,fun h => b.cell h⟩
theorem Kp.trans {W w w' : World} (a : Kp W w) (b : Kp w w') : Kp W w':=⟨Nat.le_trans a.size b.size,fun h => (b.cell (Nat.lt_of_lt_of_le h a.size)).trans (a.cell h)⟩
theorem kp_then {W w w' : World} (a : Kp W w) (b : Below w.heap.size w w') : Kp W w':=a.trans (kp_of b)
theorem kp_after {W w w' : World} (a : Below W.heap.size W w) (b : Kp w w') : Kp W w':=(kp_of a).trans b
def IsDeed (W : World) (v : Value) (F : VmK → VmL → Eff) : Prop:=∃ g cs,v = .func (.func g) #[] cs ∧ Ent g ∧ ∀ w k L,Kp W w → Ok k L → IsVm w k L → Calls Tryz.prog g (#[vmV k] ++ cs) w (DeedOut (F k L) k w)
structure Takes (w : World) (t : Nat) (A : Option Addr) (c : Nat) (x : List Int) : Prop where
  row : Row w A t c x
  len : x.length = t
  cells : ∀ y ∈ x,cellR y
theorem Takes.keep {w w' : World} {t : Nat} {A : Option Addr} {c : Nat} {x : List Int} (h : Takes w t A c x) (b : Below w.heap.size w w') : Takes w' t A c x:=⟨h.row.keep b,h.len,h.cells⟩
abbrev Fn3:=VmK → VmL → List Int → Eff
def IsAct (W : World) (v : Value) (t : Nat) (f : Fn3) : Prop:=∃ g cs,v = .func (.func g) #[] cs ∧ Ent g ∧ ∀ w k L A c x,Kp W w → Ok k L → IsVm w k L → Takes w t A c x → Calls Tryz.prog g (#[vmV k,.slice A t c] ++ cs) w (ActOut (f k L x) k w)
def IsTurn (W : World) (v : Value) (t : Nat) (f : Fn3) : Prop:=∃ g cs,v = .func (.func g) #[] cs ∧ Ent g ∧ ∀ w k L A c x,Kp W w → Ok k L → IsVm w k L → Takes w t A c x → Calls Tryz.prog g (#[vmV k,.slice A t c] ++ cs) w (TurnOut (f k L x) k w)
def CellOut (o : List Int) (C : Int) (w : World) (e : Ending) (w' : World) : Prop:=∃ B m d,e = .returned (.tuple #[.slice B m d,.int .i64 C]) ∧ (C = 0 → RowN w.heap.size w' B m d o) ∧ Below w.heap.size w w'
def IsReck (W : World) (v : Value) (t : Nat) (o : List Int → List Int) (C : List Int → Int) : Prop:=∃ g cs,v = .func (.func g) #[] cs ∧ Ent g ∧ ∀ w A c x,Kp W w → Takes w t A c x → Calls Tryz.prog g (#[.slice A t c] ++ cs) w (CellOut (o x) (C x) w)
structure MemIn (w : World) (A P : Option Addr) (n c K d : Nat) (m : PM) : Prop where
  is : IsMem w (.agg #[.slice A n c,.slice P K d]) m
  n1 : 2048 ≤ n
  n2 : n ≤ 8192
  k1 : K ≤ 900
theorem MemIn.keep {w w' : World} {A P : Option Addr} {n c K d : Nat} {m : PM} (h : MemIn w A P n c K d m) (b : Below w.heap.size w w') : MemIn w' A P n c K d m:=⟨h.is.keep b,h.n1,h.n2,h.k1⟩
def MemOut (P0 : Option Addr) (K0 : Nat) (m : PM) (C : Int) (w : World) (e : Ending) (w' : World) : Prop:=∃ A n c P K d,e = .returned (.tuple #[.agg #[.slice A n c,.slice P K d],.int .i64 C]) ∧ (C = 0 → MemP P0 K0 w.heap.size w' (.agg #[.slice A n c,.slice P K d]) m) ∧ Below w.heap.size w w'
def IsStore (W : World) (v : Value) (t : Nat) (f : PM → List Int → PM) (C : PM → List Int → Int) : Prop:=∃ g cs,v = .func (.func g) #[] cs ∧ Ent g ∧ ∀ w A P n c K d m B c2 x,Kp W w → MemIn w A P n c K d m → Takes w t B c2 x → Calls Tryz.prog g (#[.agg #[.slice A n c,.slice P K d],.slice B t c2] ++ cs) w (MemOut P K (f m x) (C m x) w)
def LayOut (P0 : Option Addr) (K0 : Nat) (m : PM) (p C : Int) (w : World) (e : Ending) (w' : World) : Prop:=∃ A n c P K d,e = .returned (.tuple #[.agg #[.slice A n c,.slice P K d],.int .i64 p,.int .i64 C]) ∧ (C = 0 → MemP P0 K0 w.heap.size w' (.agg #[.slice A n c,.slice P K d]) m) ∧ Below w.heap.size w w'
def IsLay (W : World) (v : Value) (t : Nat) (f : PM → Int → List Int → PM) (p C : PM → Int → List Int → Int) : Prop:=∃ g cs,v = .func (.func g) #[] cs ∧ Ent g ∧ ∀ w A P n c K d m h B c2 x,Kp W w → MemIn w A P n c K d m → 1368 ≤ h → h ≤ (n : Int) → Takes w t B c2 x → Calls Tryz.prog g (#[.agg #[.slice A n c,.slice P K d],.int .i64 h,.slice B t c2] ++ cs) w (LayOut P K (f m h x) (p m h x) (C m h x) w)
def IsFetch (W : World) (v : Value) (o : PM → Int → List Int) (C : PM → Int → Int) : Prop:=∃ g cs,v = .func (.func g) #[] cs ∧ Ent g ∧ ∀ w A P n c K d m a,Kp W w → MemIn w A P n c K d m → cellR a → Calls Tryz.prog g (#[.agg #[.slice A n c,.slice P K d],.int .i64 a] ++ cs) w (CellOut (o m a) (C m a) w)
def IsOne (W : World) (v : Value) (o C : PM → Int → Int) : Prop:=∃ g cs,v = .func (.func g) #[] cs ∧ Ent g ∧ ∀ w A P n c K d m a,Kp W w → MemIn w A P n c K d m → cellR a → Calls Tryz.prog g (#[.agg #[.slice A n c,.slice P K d],.int .i64 a] ++ cs) w fun e w' => e = .returned (.tuple #[.int .i64 (o m a),.int .i64 (C m a)]) ∧ Below w.heap.size w w'
def IsTell (W : World) (v : Value) (o : VmK → VmL → Int) : Prop:=∃ g cs,v = .func (.func g) #[] cs ∧ Ent g ∧ ∀ w k L,Kp W w → Ok k L → IsVm w k L → Calls Tryz.prog g (#[vmV k] ++ cs) w fun e w' => e = .returned (.int .i64 (o k L)) ∧ Below w.heap.size w w'
def IsText (W : World) (v : Value) (t : Nat) (s : VmK → VmL → List Int → List UInt8) (C : VmK → VmL → List Int → Int) : Prop:=∃ g cs,v = .func (.func g) #[] cs ∧ Ent g ∧ ∀ w k L A c x,Kp W w → Ok k L → IsVm w k L → Takes w t A c x → Calls Tryz.prog g (#[vmV k,.slice A t c] ++ cs) w fun e w' => e = .returned (.tuple #[.string (strB (s k L x)),.int .i64 (C k L x)]) ∧ (C k L x = 0 → (s k L x).length ≤ 100000) ∧ Below w.heap.size w w'
def IsHold (W : World) (v : Value) (f : Bool → List UInt8 → Int → List UInt8) (C : Bool → List UInt8 → Int → Int) : Prop:=∃ g cs,v = .func (.func g) #[] cs ∧ Ent g ∧ ∀ w A n c o l a,Kp W w → Byt w (.slice A n c) l → l.length ≤ 900 → cellR a → Calls Tryz.prog g (#[.agg #[.slice A n c,.bool o],.int .i64 a] ++ cs) w (PicOut o (f o l a) (C o l a) w)
theorem IsDeed.keep {W W' : World} {v : Value} {F : VmK → VmL → Eff} (h : IsDeed W v F) (z : Kp W W') : IsDeed W' v F:=by
  obtain ⟨g,cs,e,he,hc⟩:=h;refine ⟨g,cs,e,he,?_⟩;intro w
  intros
  exact hc _ _ _ (z.trans (by assumption)) (by assumption) (by assumption)
theorem IsAct.keep {W W' : World} {v : Value} {t : Nat} {f : Fn3} (h : IsAct W v t f) (z : Kp W W') : IsAct W' v t f:=by
  obtain ⟨g,cs,e,he,hc⟩:=h;refine ⟨g,cs,e,he,?_⟩;intro w
  intros
  exact hc _ _ _ _ _ _ (z.trans (by assumption)) (by assumption) (by assumption) (by assumption)
theorem IsTurn.keep {W W' : World} {v : Value} {t : Nat} {f : Fn3} (h : IsTurn W v t f) (z : Kp W W') : IsTurn W' v t f:=by
  obtain ⟨g,cs,e,he,hc⟩:=h;refine ⟨g,cs,e,he,?_⟩;intro w
  intros
  exact hc _ _ _ _ _ _ (z.trans (by assumption)) (by assumption) (by assumption) (by assumption)
theorem IsReck.keep {W W' : World} {v : Value} {t : Nat} {o : List Int → List Int} {C : List Int → Int} (h : IsReck W v t o C) (z : Kp W W') : IsReck W' v t o C:=by
  obtain ⟨g,cs,e,he,hc⟩:=h;refine ⟨g,cs,e,he,?_⟩;intro w
  intros
  exact hc _ _ _ _ (z.trans (by assumption)) (by assumption)
theorem IsStore.keep {W W' : World} {v : Value} {t : Nat} {f : PM → List Int → PM} {C : PM → List Int → Int} (h : IsStore W v t f C) (z : Kp W W') : IsStore W' v t f C:=by
  obtain ⟨g,cs,e,he,hc⟩:=h;refine ⟨g,cs,e,he,?_⟩;intro w
  intros
  exact hc _ _ _ _ _ _ _ _ _ _ _ (z.trans (by assumption)) (by assumption) (by assumption)
theorem IsLay.keep {W W' : World} {v : Value} {t : Nat} {f : PM → Int → List Int → PM} {p C : PM → Int → List Int → Int} (h : IsLay W v t f p C) (z : Kp W W') : IsLay W' v t f p C:=by
  obtain ⟨g,cs,e,he,hc⟩:=h;refine ⟨g,cs,e,he,?_⟩;intro w
  intros
  exact hc _ _ _ _ _ _ _ _ _ _ _ _ (z.trans (by assumption)) (by assumption) (by assumption) (by assumption) (by assumption)
theorem IsFetch.keep {W W' : World} {v : Value} {o : PM → Int → List Int} {C : PM → Int → Int} (h : IsFetch W v o C) (z : Kp W W') : IsFetch W' v o C:=by
  obtain ⟨g,cs,e,he,hc⟩:=h;refine ⟨g,cs,e,he,?_⟩;intro w
  intros
  exact hc _ _ _ _ _ _ _ _ _ (z.trans (by assumption)) (by assumption) (by assumption)
theorem IsOne.keep {W W' : World} {v : Value} {o C : PM → Int → Int} (h : IsOne W v o C) (z : Kp W W') : IsOne W' v o C:=by
  obtain ⟨g,cs,e,he,hc⟩:=h;refine ⟨g,cs,e,he,?_⟩;intro w
  intros
  exact hc _ _ _ _ _ _ _ _ _ (z.trans (by assumption)) (by assumption) (by assumption)
theorem IsTell.keep {W W' : World} {v : Value} {o : VmK → VmL → Int} (h : IsTell W v o) (z : Kp W W') : IsTell W' v o:=by
  obtain ⟨g,cs,e,he,hc⟩:=h;refine ⟨g,cs,e,he,?_⟩;intro w
  intros
  exact hc _ _ _ (z.trans (by assumption)) (by assumption) (by assumption)
theorem IsText.keep {W W' : World} {v : Value} {t : Nat} {s : VmK → VmL → List Int → List UInt8} {C : VmK → VmL → List Int → Int} (h : IsText W v t s C) (z : Kp W W') : IsText W' v t s C:=by
  obtain ⟨g,cs,e,he,hc⟩:=h;refine ⟨g,cs,e,he,?_⟩;intro w
  intros
  exact hc _ _ _ _ _ _ (z.trans (by assumption)) (by assumption) (by assumption) (by assumption)
theorem IsHold.keep {W W' : World} {v : Value} {f : Bool → List UInt8 → Int → List UInt8} {C : Bool → List UInt8 → Int → Int} (h : IsHold W v f C) (z : Kp W W') : IsHold W' v f C:=by
  obtain ⟨g,cs,e,he,hc⟩:=h;refine ⟨g,cs,e,he,?_⟩;intro w
  intros
  exact hc _ _ _ _ _ _ _ (z.trans (by assumption)) (by assumption) (by assumption) (by assumption)
theorem exec_vl {o : Oper} {a : Act} (x : Operand) (ho : o.op = .load 37 x) (b : Nat) (k : VmK) (hx : a.eval x = .pointer (some ⟨b,0,none⟩)) {u : World} (hb : VBox u b k) : (execOp a.eval o).run Tryz.prog u = .ok (.value (vmV k)) u:=by
  have hl:=vm_load hb;unfold execOp;simp only [ho,hx,Instr.loadAt,Instr.sureAddr,Sem.run_bind,Sem.run_pure,Result.andThen_ok,hl]
theorem vrow_fr {w : World} {b b' : Nat} {k : VmK} (h : VBox w b k) (hne : b ≠ b') (cs : Array Value) : VBox (w.setRow b' cs) b k:=by
  unfold VBox at h ⊢;rw [setRow_other w b' b cs (by omega)];exact h
theorem step_vst {ops : Array Oper} {o : Oper} {a : Act} {K : Act → World → Prop} {Q : Exit → Act → World → Prop} {E : Prop} {w : World} (hgd : o.guard = none) (x y : Operand) (ho : o.op = .store 37 x y)
    (b : Nat) (j k : VmK) (hx : a.eval x = .pointer (some ⟨b,0,none⟩)) (hy : a.eval y = vmV k) (hb : VBox w b j) (h : K (a.put o.dst undef) (w.setRow b (vmC k))) :
    if Region.wanted o (yielded ops a.tmps) = true then Oper.wp Tryz.prog o a w K Q else E:=by
  have hw : Region.wanted o (yielded ops a.tmps) = true:=by simp [Region.wanted,hgd]
  rw [if_pos hw];exact wp_store_row 37 x y ho b (vmC k) hx hy _ _ hb vm_info rfl (vm_one k) h
theorem in_two (w : World) (k : VmK) (o : Obj) : Below w.heap.size w ((w.alloc (.cells (vmC k) 37)).alloc o) ∧ VBox ((w.alloc (.cells (vmC k) 37)).alloc o) w.heap.size k:=⟨al_two _ _ _,(vbox_new w k).keep (al_one _ _)⟩
theorem in_two0 (w : World) (o : Obj) : VBox ((w.alloc o).alloc (.cells (vmC vm0) 37)) (w.heap.size + 1) vm0:=by
  have:=vbox_zero (w.alloc o)
  rwa [World.size_alloc] at this
theorem Ok.mem {k : VmK} {L : VmL} {w : World} (o : Ok k L) (h : IsVm w k L) : MemIn w k.mA k.pA k.mn k.mc k.pn k.pc L.m:=⟨h.m,by rw [← h.m.len1]; exact o.m1,by rw [← h.m.len1]; exact o.m2,by rw [← h.m.len2]; exact o.m3⟩
theorem VBox.put_m {w : World} {b : Nat} {k : VmK} (h : VBox w b k) (B : Option Addr) (m d : Nat) : VBox (w.setCell ⟨b,5,none⟩ (.slice B m d)) b { k with mA:=B,mn:=m,mc:=d }:=by
  have h1:=Go.Joins.block_setCell (i:=5) h (.slice B m d);simpa [VBox] using h1
theorem VBox.put_p {w : World} {b : Nat} {k : VmK} (h : VBox w b k) (B : Option Addr) (m d : Nat) : VBox (w.setCell ⟨b,6,none⟩ (.slice B m d)) b { k with pA:=B,pn:=m,pc:=d }:=by
  have h1:=Go.Joins.block_setCell (i:=6) h (.slice B m d);simpa [VBox] using h1
theorem VBox.put_d {w : World} {b : Nat} {k : VmK} (h : VBox w b k) (B : Option Addr) (m d : Nat) : VBox (w.setCell ⟨b,8,none⟩ (.slice B m d)) b { k with dA:=B,dn:=m,dc:=d }:=by
  have h1:=Go.Joins.block_setCell (i:=8) h (.slice B m d);simpa [VBox] using h1
theorem VBox.put_e {w : World} {b : Nat} {k : VmK} (h : VBox w b k) (B : Option Addr) (m d : Nat) : VBox (w.setCell ⟨b,16,none⟩ (.slice B m d)) b { k with eA:=B,en:=m,ec:=d }:=by
  have h1:=Go.Joins.block_setCell (i:=16) h (.slice B m d);simpa [VBox] using h1
theorem VBox.set_here {w : World} {b : Nat} {k : VmK} (h : VBox w b k) (n : Int) : VBox (w.setCell ⟨b,7,none⟩ (.int .i64 n)) b { k with here:=n }:=by
  have h1:=Go.Joins.block_setCell (i:=7) h (.int .i64 n);simpa [VBox] using h1
theorem VBox.set_free {w : World} {b : Nat} {k : VmK} (h : VBox w b k) (n : Int) : VBox (w.setCell ⟨b,17,none⟩ (.int .i64 n)) b { k with free:=n }:=by
  have h1:=Go.Joins.block_setCell (i:=17) h (.int .i64 n);simpa [VBox] using h1
theorem VBox.set_next {w : World} {b : Nat} {k : VmK} (h : VBox w b k) (n : Int) : VBox (w.setCell ⟨b,18,none⟩ (.int .i64 n)) b { k with next:=n }:=by
  have h1:=Go.Joins.block_setCell (i:=18) h (.int .i64 n);simpa [VBox] using h1
theorem vset_far {w : World} {b b' i : Nat} {k : VmK} {v : Value} (h : VBox w b k) (hne : b ≠ b') : VBox (w.setCell ⟨b',i,none⟩ v) b k:=by
  unfold VBox;rw [Below.heap_setCell _ _ _ _ hne];exact h
theorem res_ctt {fn : Func} {p t u : Tmp} (h : fn.results = #[.cell p 37,.tmp u,.tmp t]) (tmps : Array Value) (w : World) (b : Nat) (k : VmK) (hp : tmps.getD p undef = .pointer (some ⟨b,0,none⟩)) (hb : VBox w b k) :
    (results fn tmps).run Tryz.prog w = .ok (.tuple #[vmV k,tmps.getD u undef,tmps.getD t undef]) w:=by
  have hp' : tmps[p]?.getD undef = .pointer (some ⟨b,0,none⟩):=by simpa using hp
  simp [results,h,hp',asAddr,vm_load hb]


structure Free (k : VmK) (b : Nat) : Prop where
  p : k.pn = 0 ∨ ∀ q,k.pA = some q → q.block ≠ b
  d : k.dn = 0 ∨ ∀ q,k.dA = some q → q.block ≠ b
  r : k.rn = 0 ∨ ∀ q,k.rA = some q → q.block ≠ b
  f : k.fn = 0 ∨ ∀ q,k.fA = some q → q.block ≠ b
  w : k.wn = 0 ∨ ∀ q,k.wA = some q → q.block ≠ b
  e : k.en = 0 ∨ ∀ q,k.eA = some q → q.block ≠ b
  h : k.hn = 0 ∨ ∀ q,k.hA = some q → q.block ≠ b
theorem fl_len {α : Type} {enc : α → List Value} (s : Nat) (hs : ∀ y,(enc y).length = s) (l : List α) : (l.flatMap enc).length = l.length * s:=by
  rw [List.length_flatMap,show (l.map fun y => (enc y).length) = l.map fun _ => s from List.map_congr_left fun y _ => hs y,List.map_const',List.sum_replicate_nat]
theorem lies_low {w : World} {A : Option Addr} {xs : List Value} {n s b : Nat} (h : Lies w A xs) (e : xs.length = n * s) (hs : 0 < s) (hb : w.heap.size ≤ b) : n = 0 ∨ ∀ q,A = some q → q.block ≠ b:=by
  rcases h with h | ⟨g,o,ea,hg,_⟩
  · rw [h] at e
    have e : 0 = n * s:=e
    rcases Nat.mul_eq_zero.1 e.symm with h | h
    · exact .inl h
    · omega
  · refine .inr fun q hq eb => ?_
    rw [ea] at hq;cases hq
    simp at eb;omega
theorem free_of {w : World} {k : VmK} {L : VmL} {b : Nat} (h : IsVm w k L) (hb : w.heap.size ≤ b) : Free k b:=by
  refine ⟨?_,?_,?_,?_,?_,?_,?_⟩
  · obtain ⟨b0,o0,e,_,A,c,qs,h1,h2,h3,h4,h5⟩:=h.m
    injection e with e
    simp at e;obtain ⟨_,rfl⟩:=e;injection h1 with h1 hn hc
    subst h1;exact lies_low (n:=k.pn) (s:=2) h4 (by rw [pc_len,h5.1,hn]; omega) (by decide) hb
  · exact lies_low (n:=k.dn) (s:=1) h.d.2.2.2 (by rw [ints_len,h.d.1,Nat.mul_one]) (by decide) hb
  · exact lies_low (n:=k.rn) (s:=1) h.r.2.2.2 (by rw [ints_len,h.r.1,Nat.mul_one]) (by decide) hb
  · exact lies_low (n:=k.fn) (s:=3) h.f.lies (by rw [fl_len 3 (fun _ => rfl),h.f.len]) (by decide) hb
  · have hl:=h.dict.len
    exact lies_low (n:=k.wn) (s:=3) h.dict.lies (by rw [wds_len,hl]) (by decide) hb
  · exact lies_low (n:=k.en) (s:=6) h.e.lies (by rw [fl_len 6 (fun _ => rfl),h.e.len]) (by decide) hb
  · exact lies_low (n:=k.hn) (s:=4) h.h.lies (by rw [fl_len 4 (fun _ => rfl),h.h.len]) (by decide) hb
theorem newA_free {B n' n b : Nat} {A' A : Option Addr} (h : NewA B A' n' A n) (f : n = 0 ∨ ∀ q,A = some q → q.block ≠ b) (hb : b < B) : n' = 0 ∨ ∀ q,A' = some q → q.block ≠ b:=by
  rcases h with ⟨rfl,rfl⟩ | h
  · exact f
  · exact .inr fun q hq e => by have:=h q hq; omega
theorem lies_free {u V : World} {A : Option Addr} {xs : List Value} {n s b : Nat} (h : Lies u A xs) (e : xs.length = n * s) (f : n = 0 ∨ ∀ q,A = some q → q.block ≠ b) (x : Ex (fun g => g = b) u V) : Lies V A xs:=by
  rcases f with f | f
  · refine .inl (List.eq_nil_of_length_eq_zero ?_)
    rw [e,f,Nat.zero_mul]
  · rcases h with h | ⟨g,o,ea,hg,hc⟩
    · exact .inl h
    · have hgb : g ≠ b:=f _ ea
      refine .inr ⟨g,o,ea,Nat.lt_of_lt_of_le hg x.size,fun i v hi => ?_⟩;have:=hc i v hi;unfold World.cell? at this ⊢;rw [x.same g hg hgb];exact this
theorem rws_free {α : Type} {enc : α → List Value} {s : Nat} (hs : ∀ y,(enc y).length = s) {u V : World} {A : Option Addr} {n c b : Nat} {l : List α} (h : Rws enc u (.slice A n c) l) (f : n = 0 ∨ ∀ q,A = some q → q.block ≠ b) (x : Ex (fun g => g = b) u V) : Rws enc V (.slice A n c) l:=by
  have h4:=lies_free (n:=n) (s:=s) h.lies (by rw [fl_len s hs,h.len]) f x;obtain ⟨A',c',e,h1,h2,_⟩:=h;exact ⟨A',c',e,h1,h2,by injection e with e1 _ _; subst e1; exact h4⟩
end Go.Proofs.YtcmldhjicjmmgaaGreatDoor
