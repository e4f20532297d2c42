/- Part 16. -/
import Derived.Test.YtcmldhjicjmmgaaGreatDoorXkAO
set_option linter.unusedVariables false
set_option linter.unusedSimpArgs false
set_option maxRecDepth 100000
set_option maxHeartbeats 4000000

namespace Go.Proofs.YtcmldhjicjmmgaaGreatDoor
open Go.RowKit


structure Free (k : VmK) (b : Nat) : Prop where
  p : k.pn = 0 ∨ ∀ q,k.pA = some q → q.block ≠ b
  d : k.dn = 0 ∨ ∀ q,k.dA = some q → q.block ≠ b
  r : k.rn = 0 ∨ ∀ q,k.rA = some q → q.block ≠ b
  f : k.fn = 0 ∨ ∀ q,k.fA = some q → q.block ≠ b
  w : k.wn = 0 ∨ ∀ q,k.wA = some q → q.block ≠ b
  e : k.en = 0 ∨ ∀ q,k.eA = some q → q.block ≠ b
  h : k.hn = 0 ∨ ∀ q,k.hA = some q → q.block ≠ b
theorem fl_len {α : Type} {enc : α → List Value} (s : Nat) (hs : ∀ y,(enc y).length = s) (l : List α) : (l.flatMap enc).length = l.length * s:=by
  rw [List.length_flatMap,show (l.map fun y => (enc y).length) = l.map fun _ => s from List.map_congr_left fun y _ => hs y,List.map_const',List.sum_replicate_nat]
theorem lies_low {w : World} {A : Option Addr} {xs : List Value} {n s b : Nat} (h : Lies w A xs) (e : xs.length = n * s) (hs : 0 < s) (hb : w.heap.size ≤ b) : n = 0 ∨ ∀ q,A = some q → q.block ≠ b:=by
  rcases h with h | ⟨g,o,ea,hg,_⟩
  · rw [h] at e
    have e : 0 = n * s:=e
    rcases Nat.mul_eq_zero.1 e.symm with h | h
    · exact .inl h
    · omega
  · refine .inr fun q hq eb => ?_
    rw [ea] at hq;cases hq
    simp at eb;omega
theorem free_of {w : World} {k : VmK} {L : VmL} {b : Nat} (h : IsVm w k L) (hb : w.heap.size ≤ b) : Free k b:=by
  refine ⟨?_,?_,?_,?_,?_,?_,?_⟩
  · obtain ⟨b0,o0,e,_,A,c,qs,h1,h2,h3,h4,h5⟩:=h.m
    injection e with e
    simp at e;obtain ⟨_,rfl⟩:=e;injection h1 with h1 hn hc
    subst h1;exact lies_low (n:=k.pn) (s:=2) h4 (by rw [pc_len,h5.1,hn]; omega) (by decide) hb
  · exact lies_low (n:=k.dn) (s:=1) h.d.2.2.2 (by rw [ints_len,h.d.1,Nat.mul_one]) (by decide) hb
  · exact lies_low (n:=k.rn) (s:=1) h.r.2.2.2 (by rw [ints_len,h.r.1,Nat.mul_one]) (by decide) hb
  · exact lies_low (n:=k.fn) (s:=3) h.f.lies (by rw [fl_len 3 (fun _ => rfl),h.f.len]) (by decide) hb
  · have hl:=h.dict.len
    exact lies_low (n:=k.wn) (s:=3) h.dict.lies (by rw [wds_len,hl]) (by decide) hb
  · exact lies_low (n:=k.en) (s:=6) h.e.lies (by rw [fl_len 6 (fun _ => rfl),h.e.len]) (by decide) hb
  · exact lies_low (n:=k.hn) (s:=4) h.h.lies (by rw [fl_len 4 (fun _ => rfl),h.h.len]) (by decide) hb
theorem newA_free {B n' n b : Nat} {A' A : Option Addr} (h : NewA B A' n' A n) (f : n = 0 ∨ ∀ q,A = some q → q.block ≠ b) (hb : b < B) : n' = 0 ∨ ∀ q,A' = some q → q.block ≠ b:=by
  rcases h with ⟨rfl,rfl⟩ | h
  · exact f
  · exact .inr fun q hq e => by have:=h q hq; omega
theorem lies_free {u V : World} {A : Option Addr} {xs : List Value} {n s b : Nat} (h : Lies u A xs) (e : xs.length = n * s) (f : n = 0 ∨ ∀ q,A = some q → q.block ≠ b) (x : Ex (fun g => g = b) u V) : Lies V A xs:=by
  rcases f with f | f
  · refine .inl (List.eq_nil_of_length_eq_zero ?_)
    rw [e,f,Nat.zero_mul]
  · rcases h with h | ⟨g,o,ea,hg,hc⟩
    · exact .inl h
    · have hgb : g ≠ b:=f _ ea
      refine .inr ⟨g,o,ea,Nat.lt_of_lt_of_le hg x.size,fun i v hi => ?_⟩;have:=hc i v hi;unfold World.cell? at this ⊢;rw [x.same g hg hgb];exact this
theorem rws_free {α : Type} {enc : α → List Value} {s : Nat} (hs : ∀ y,(enc y).length = s) {u V : World} {A : Option Addr} {n c b : Nat} {l : List α} (h : Rws enc u (.slice A n c) l) (f : n = 0 ∨ ∀ q,A = some q → q.block ≠ b) (x : Ex (fun g => g = b) u V) : Rws enc V (.slice A n c) l:=by
  have h4:=lies_free (n:=n) (s:=s) h.lies (by rw [fl_len s hs,h.len]) f x;obtain ⟨A',c',e,h1,h2,_⟩:=h;exact ⟨A',c',e,h1,h2,by injection e with e1 _ _; subst e1; exact h4⟩
end Go.Proofs.YtcmldhjicjmmgaaGreatDoor
