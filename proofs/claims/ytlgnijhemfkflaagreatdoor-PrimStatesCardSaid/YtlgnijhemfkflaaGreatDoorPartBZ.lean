/- Part 52. -/
import Derived.Test.YtlgnijhemfkflaaGreatDoorPartBS
set_option linter.unusedVariables false
set_option linter.unusedSimpArgs false
set_option maxRecDepth 100000
set_option maxHeartbeats 4000000

namespace Go.Proofs.YtlgnijhemfkflaaGreatDoor
open Go.RowKit


structure Free (k : VmK) (b : Nat) : Prop where
  p : k.pn = 0 ∨ ∀ q,k.pA = some q → q.block ≠ b
  d : k.dn = 0 ∨ ∀ q,k.dA = some q → q.block ≠ b
  r : k.rn = 0 ∨ ∀ q,k.rA = some q → q.block ≠ b
  f : k.fn = 0 ∨ ∀ q,k.fA = some q → q.block ≠ b
  w : k.wn = 0 ∨ ∀ q,k.wA = some q → q.block ≠ b
  e : k.en = 0 ∨ ∀ q,k.eA = some q → q.block ≠ b
  h : k.hn = 0 ∨ ∀ q,k.hA = some q → q.block ≠ b
theorem fl_len {α : Type} {enc : α → List Value} (s : Nat) (hs : ∀ y,(enc y).length = s) (l : List α) : (l.flatMap enc).length = l.length * s:=by
  rw [List.length_flatMap,show (l.map fun y => (enc y).length) = l.map fun _ => s from List.map_congr_left fun y _ => hs y,List.map_const',List.sum_replicate_nat]
theorem lies_low {w : World} {A : Option Addr} {xs : List Value} {n s b : Nat} (h : Lies w A xs) (e : xs.length = n * s) (hs : 0 < s) (hb : w.heap.size ≤ b) : n = 0 ∨ ∀ q,A = some q → q.block ≠ b:=by
  rcases h with h | ⟨g,o,ea,hg,_⟩
  · rw [h] at e
    have e : 0 = n * s:=e
    rcases Nat.mul_eq_zero.1 e.symm with h | h
    · exact .inl h
    · omega
  · refine .inr fun q hq eb => ?_
    rw [ea] at hq;cases hq
    simp at eb;omega
theorem free_of {w : World} {k : VmK} {L : VmL} {b : Nat} (h : IsVm w k L) (hb : w.heap.size ≤ b) : Free k b:=by
  refine ⟨?_,?_,?_,?_,?_,?_,?_⟩
  · obtain ⟨b0,o0,e,_,A,c,qs,h1,h2,h3,h4,h5⟩:=h.m
    injection e with e
    simp at e;obtain ⟨_,rfl⟩:=e;injection h1 with h1 hn hc
    subst h1;exact lies_low (n:=k.pn) (s:=2) h4 (by rw [pc_len,h5.1,hn]; omega) (by decide) hb
  · exact lies_low (n:=k.dn) (s:=1) h.d.2.2.2 (by rw [ints_len,h.d.1,Nat.mul_one]) (by decide) hb
  · exact lies_low (n:=k.rn) (s:=1) h.r.2.2.2 (by rw [ints_len,h.r.1,Nat.mul_one]) (by decide) hb
  · exact lies_low (n:=k.fn) (s:=3) h.f.lies (by rw [fl_len 3 (fun _ => rfl),h.f.len]) (by decide) hb
  · have hl:=h.dict.len
    exact lies_low (n:=k.wn) (s:=3) h.dict.lies (by rw [wds_len,hl]) (by decide) hb
  · exact lies_low (n:=k.en) (s:=6) h.e.lies (by rw [fl_len 6 (fun _ => rfl),h.e.len]) (by decide) hb
  · exact lies_low (n:=k.hn) (s:=4) h.h.lies (by rw [fl_len 4 (fun _ => rfl),h.h.len]) (by decide) hb
theorem newA_free {B n' n b : Nat} {A' A : Option Addr} (h : NewA B A' n' A n) (f : n = 0 ∨ ∀ q,A = some q → q.block ≠ b) (hb : b < B) : n' = 0 ∨ ∀ q,A' = some q → q.block ≠ b:=by
  rcases h with ⟨rfl,rfl⟩ | h
  · exact f
  · exact .inr fun q hq e => by have:=h q hq; omega
theorem free_loc {B b : Nat} {j k : VmK} (l : MLoc B j k) (f : Free k b) (hb : b < B) : Free j b :=
  ⟨newA_free l.p f.p hb,newA_free l.d f.d hb,by rw [l.r.1,l.r.2]; exact f.r,by rw [l.f.1,l.f.2]; exact f.f,by rw [l.w.1,l.w.2]; exact f.w,newA_free l.e f.e hb,by rw [l.h.1,l.h.2]; exact f.h⟩
theorem free_d {k : VmK} {b : Nat} (f : Free k b) (g n c : Nat) (hg : g ≠ b) : Free { k with dA:=some ⟨g,0,none⟩,dn:=n,dc:=c } b :=
  ⟨f.p,.inr fun q hq e => by cases hq; exact hg e,f.r,f.f,f.w,f.e,f.h⟩
theorem lies_free {u V : World} {A : Option Addr} {xs : List Value} {n s b : Nat} (h : Lies u A xs) (e : xs.length = n * s) (f : n = 0 ∨ ∀ q,A = some q → q.block ≠ b) (x : Ex (fun g => g = b) u V) : Lies V A xs:=by
  rcases f with f | f
  · refine .inl (List.eq_nil_of_length_eq_zero ?_)
    rw [e,f,Nat.zero_mul]
  · rcases h with h | ⟨g,o,ea,hg,hc⟩
    · exact .inl h
    · have hgb : g ≠ b:=f _ ea
      refine .inr ⟨g,o,ea,Nat.lt_of_lt_of_le hg x.size,fun i v hi => ?_⟩;have:=hc i v hi;unfold World.cell? at this ⊢;rw [x.same g hg hgb];exact this
theorem rws_free {α : Type} {enc : α → List Value} {s : Nat} (hs : ∀ y,(enc y).length = s) {u V : World} {A : Option Addr} {n c b : Nat} {l : List α} (h : Rws enc u (.slice A n c) l) (f : n = 0 ∨ ∀ q,A = some q → q.block ≠ b) (x : Ex (fun g => g = b) u V) : Rws enc V (.slice A n c) l:=by
  have h4:=lies_free (n:=n) (s:=s) h.lies (by rw [fl_len s hs,h.len]) f x;obtain ⟨A',c',e,h1,h2,_⟩:=h;exact ⟨A',c',e,h1,h2,by injection e with e1 _ _; subst e1; exact h4⟩
theorem isvm_free {u V : World} {k j : VmK} {L : VmL} {b : Nat} (h : IsVm u k L) (f : Free k b) (x : Ex (fun g => g = b) u V) (hb : VBox u b j) : IsVm V k L:=by
  have hv : ∀ g,g < u.heap.size → V.heap[g]? = u.heap[g]? ∨ NoU8 u g:=fun g hg => by
    by_cases e : g = b
    · subst e; exact .inr (vbox_nou8 hb)
    · exact .inl (x.same g hg e)
  refine ⟨?_,⟨h.d.1,h.d.2.1,h.d.2.2.1,lies_free (n:=k.dn) (s:=1) h.d.2.2.2 (by rw [ints_len,h.d.1,Nat.mul_one]) f.d x⟩,⟨h.r.1,h.r.2.1,h.r.2.2.1,lies_free (n:=k.rn) (s:=1) h.r.2.2.2 (by rw [ints_len,h.r.1,Nat.mul_one]) f.r x⟩,
    rws_free (s:=3) (fun _ => rfl) h.f f.f x,?_,byt_across h.o x.size hv,byt_across h.q x.size hv,rws_free (s:=6) (fun _ => rfl) h.e f.e x,rws_free (s:=4) (fun _ => rfl) h.h f.h x⟩
  · obtain ⟨b0,o0,e,h0,A,c,qs,h1,h2,h3,h4,h5⟩:=h.m
    have e9:=e;injection e with e
    simp at e;obtain ⟨rfl,rfl⟩:=e;have hh:=h1;injection h1 with h1 hn hc
    subst h1;exact ⟨_,_,rfl,byt_across h0 x.size hv,_,_,qs,hh,h2,h3,lies_free (n:=k.pn) (s:=2) h4 (by rw [pc_len,h5.1,hn]; omega) f.p x,h5.1,fun i q p hq hp => ⟨(h5.2 i q p hq hp).1,byt_across (h5.2 i q p hq hp).2 x.size hv⟩⟩
  · have hl:=h.dict.len
    have h4:=lies_free (n:=k.wn) (s:=3) h.dict.lies (by rw [wds_len,hl]) f.w x;obtain ⟨A',c',e,h1,h2,_⟩:=h.dict;exact ⟨A',c',e,h1,h2,by injection e with e1 _ _; subst e1; exact h4⟩
theorem row_free {u V : World} {A : Option Addr} {n c b : Nat} {l : List Int} (h : Row u A n c l) (f : n = 0 ∨ ∀ q,A = some q → q.block ≠ b) (x : Ex (fun g => g = b) u V) : Row V A n c l:=⟨h.1,h.2.1,h.2.2.1,lies_free (n:=n) (s:=1) h.2.2.2 (by rw [ints_len,h.1,Nat.mul_one]) f x⟩
theorem sc_d {k j : VmK} (h : Sc k j) (A : Option Addr) (n c : Nat) : Sc { k with dA:=A,dn:=n,dc:=c } j:=⟨h.cm,h.cd,h.cr,h.cw,h.co,h.here,h.last,h.qo,h.free,h.next,h.arg,h.self,h.now⟩
theorem IsVm.set_d {w : World} {k : VmK} {L : VmL} (h : IsVm w k L) {A : Option Addr} {n c : Nat} {l : List Int} (r : Row w A n c l) : IsVm w { k with dA:=A,dn:=n,dc:=c } { L with d:=l }:=⟨h.m,r,h.r,h.f,h.dict,h.o,h.q,h.e,h.h⟩
end Go.Proofs.YtlgnijhemfkflaaGreatDoor
