/- Part 44. -/
import Derived.Test.YtlgnijhemfkflaaGreatDoorPaBQ
set_option linter.unusedVariables false
set_option linter.unusedSimpArgs false
set_option maxRecDepth 100000
set_option maxHeartbeats 4000000

namespace Go.Proofs.YtlgnijhemfkflaaGreatDoor
open Go.RowKit


def askK (F t : Int) : VmK:={ stS with free:=F - t,next:=t }
def askL (hs : List Hn) (E : List Rq) (d : List Int) : VmL:={ newL 2048 with h:=hs,e:=E,d:=d }
theorem ask_len {hs : List Hn} {E : List Rq} {d : List Int} : (askL hs E d).m.1.length = 2048:=rowN_len 2048 167
theorem ask_ok {F t : Int} {hs : List Hn} {E : List Rq} {d : List Int} (f0 : 0 ≤ F - t) (f1 : F - t ≤ 64) (t0 : 0 ≤ t) (t1 : t ≤ 64) (hh : hs.length ≤ 4) (he : E.length ≤ 16) (hd : d.length ≤ 4) (hr : ∀ x ∈ d,cellR x) : Ok (askK F t) (askL hs E d):=by
  have e:=ask_len (hs:=hs) (E:=E) (d:=d);exact ⟨by rw [e]; decide,by rw [e]; decide,by show ([] : List Pt).length ≤ 900; decide,by show d.length ≤ 400; omega,hr,by show ([] : List UInt8).length ≤ 60000; decide,by show ([] : List UInt8).length ≤ 900; decide,by show E.length ≤ 100; omega,by show hs.length ≤ 1000; omega,by show (0 : Int) ≤ 500; decide,by show (500 : Int) ≤ 65536; decide,by show (0 : Int) ≤ 32; decide,by show (32 : Int) ≤ 256; decide,by show (1368 : Int) ≤ 1368; decide,by rw [e]; show (1368 : Int) ≤ (2048 : Nat); decide,by rw [e]; rfl⟩
theorem words_right9 : dRight (newW 167) = true:=by decide +kernel
theorem row_right9 {L : Nat} (h : L ≤ 65536) (h8 : L % 8 = 0) : rightB (rowN L 167,[]) = true:=by
  unfold rightB;rw [show ((rowN L 167,([] : List Pt)) : PM).1.length = L from rowN_len L 167];simp [h,h8]
theorem ask_right {F t : Int} {hs : List Hn} {E : List Rq} {d : List Int} (f0 : 0 ≤ F - t) (f1 : F - t ≤ 64) (t0 : 0 ≤ t) (t1 : t ≤ 64) (hh : hs.length ≤ 4) (h9 : hs.all hnB = true) (he : E.length ≤ 16) (hd : d.length ≤ 4) : RightL (askK F t) (askL hs E d):=by
  have e:=ask_len (hs:=hs) (E:=E) (d:=d);exact ⟨by show fitsB 2048 32 32 200 500 = true; decide,row_right9 (by omega) (by omega),words_right9,by show pRight false [] = true; decide,by rw [e]; rfl,by show (1368 : Int) ≤ 1368; decide,by show (1368 : Int) ≤ 2048; decide,rfl,h9,by show (d.length : Int) ≤ 32; omega,by show (0 : Int) ≤ 32; decide,by show 0 ≤ 64; decide,by show ((newW 167).length : Int) ≤ 200; rw [newW_len]; decide,by show (0 : Int) ≤ 500; decide,he,f0,f1,t0,by show t ≤ _; omega,by show hs.length ≤ 64; omega⟩
theorem ask_has {hs : List Hn} {E : List Rq} {d : List Int} {h r : Int} (g : 0 ≤ h ∧ h < (hs.length : Int) ∧ 0 ≤ r ∧ r < 4) : hasB (askL hs E d) h r = true:=by
  unfold hasB;rw [decide_eq_true_eq];exact g
theorem ask_hasnt {hs : List Hn} {E : List Rq} {d : List Int} {h r : Int} (g : ¬ (0 ≤ h ∧ h < (hs.length : Int) ∧ 0 ≤ r ∧ r < 4)) : ¬ hasB (askL hs E d) h r = true:=by
  unfold hasB;rw [decide_eq_true_eq];exact g
theorem ask_room {hs : List Hn} {E : List Rq} {d : List Int} (g : E.length < 16) : postC (askL hs E d) = 0:=if_pos g
theorem ask_full {hs : List Hn} {E : List Rq} {d : List Int} (g : ¬ E.length < 16) : postC (askL hs E d) = -257:=if_neg g
theorem ask_post {F t : Int} {hs : List Hn} {E : List Rq} {a b c d : Int} (g : 0 ≤ c ∧ c < (hs.length : Int) ∧ 0 ≤ d ∧ d < 4) (hE : E.length < 16) :
    doE 120 (askK F t) (askL hs E [a,b,c,d]) = ⟨0,[],askK F t,askL hs (E ++ [⟨1,b,c,d,0,0⟩]) [a]⟩:=by
  refine (do_st 120 (by decide) (by decide) (k:=askK F t) (L:=askL hs E [a,b,c,d]) [a] [b,c,d] (E:=e120 (askK F t) (askL hs E [a,b,c,d]) b c d) rfl rfl rfl (by show (1 : Int) ≤ 32; decide)).trans ((if_pos ?_).trans rfl);show (if hasB _ c d = true then postC _ else -259) = 0;rw [if_pos (ask_has g),ask_room hE]
theorem ask_post_no {F t : Int} {hs : List Hn} {E : List Rq} {a b c d : Int} (g : ¬ ((0 ≤ c ∧ c < (hs.length : Int) ∧ 0 ≤ d ∧ d < 4) ∧ E.length < 16)) :
    ∃ z,¬ z = 0 ∧ doE 120 (askK F t) (askL hs E [a,b,c,d]) = ⟨z,[],askK F t,askL hs E [a,b,c,d]⟩:=by
  have hz : ¬ (e120 (askK F t) (askL hs E [a,b,c,d]) b c d).c = 0:=by
    show ¬ (if hasB _ c d = true then postC _ else -259) = 0
    by_cases h1 : 0 ≤ c ∧ c < (hs.length : Int) ∧ 0 ≤ d ∧ d < 4
    · rw [if_pos (ask_has h1),ask_full fun h2 => g ⟨h1,h2⟩]; decide
    · rw [if_neg (ask_hasnt h1)]; decide
  exact ⟨_,hz,(do_st 120 (by decide) (by decide) (k:=askK F t) (L:=askL hs E [a,b,c,d]) [a] [b,c,d] (E:=e120 (askK F t) (askL hs E [a,b,c,d]) b c d) rfl rfl rfl (by show (1 : Int) ≤ 32; decide)).trans (if_neg hz)⟩
theorem ask_cancel {F t : Int} {hs : List Hn} {E : List Rq} {a b c d : Int} (hE : E.length < 16) :
    doE 123 (askK F t) (askL hs E [a,b,c,d]) = ⟨0,[],askK F t,askL hs (E ++ [⟨4,0,0,0,0,d⟩]) [a,b,c]⟩:=by
  refine (do_st 123 (by decide) (by decide) (k:=askK F t) (L:=askL hs E [a,b,c,d]) [a,b,c] [d] (E:=e123 (askK F t) (askL hs E [a,b,c,d]) d) rfl rfl rfl (by show (3 : Int) ≤ 32; decide)).trans ((if_pos ?_).trans rfl);exact ask_room hE
theorem ask_cancel_no {F t : Int} {hs : List Hn} {E : List Rq} {a b c d : Int} (g : ¬ E.length < 16) :
    ∃ z,¬ z = 0 ∧ doE 123 (askK F t) (askL hs E [a,b,c,d]) = ⟨z,[],askK F t,askL hs E [a,b,c,d]⟩:=by
  have hz : ¬ (e123 (askK F t) (askL hs E [a,b,c,d]) d).c = 0:=by
    show ¬ postC _ = 0;rw [ask_full g]; decide
  exact ⟨_,hz,(do_st 123 (by decide) (by decide) (k:=askK F t) (L:=askL hs E [a,b,c,d]) [a,b,c] [d] (E:=e123 (askK F t) (askL hs E [a,b,c,d]) d) rfl rfl rfl (by show (3 : Int) ≤ 32; decide)).trans (if_neg hz)⟩
theorem ask_timer121 {F t : Int} {hs : List Hn} {E : List Rq} {a b c d : Int} (f0 : 0 ≤ F - t) (f1 : F - t ≤ 64) (t0 : 0 ≤ t) (t1 : t ≤ 64) (g : 0 ≤ b ∧ b < (hs.length : Int) ∧ 0 ≤ c ∧ c < 4) (gd : 1 ≤ d ∧ d < 4294967296) (gt : t < F) (hE : E.length < 16) :
    doE 121 (askK F t) (askL hs E [a,b,c,d]) = ⟨0,[],askK F (t + 1),askL hs (E ++ [⟨2,a,b,c,d,t⟩]) [t]⟩:=by
  have w1 : wrap64 (t + 1) = t + 1:=w64_id (by omega) (by omega);have w2 : wrap64 (F - t - 1) = F - (t + 1):=(w64_id (by omega) (by omega)).trans (by omega);have hz : timerC (askK F t) (askL hs E [a,b,c,d]) b c d = 0:=by
    unfold timerC;rw [if_pos (ask_has g),if_pos gd,if_pos (ask_room hE),if_neg (by show ¬ (F - t = 0 ∨ t = 4611686018427387904); omega)]
  refine (do_st 121 (by decide) (by decide) (k:=askK F t) (L:=askL hs E [a,b,c,d]) [] [a,b,c,d] (E:=timerE (askK F t) (askL hs E [a,b,c,d]) 2 a b c d) rfl rfl rfl (by show (1 : Int) ≤ 32; decide)).trans ((if_pos hz).trans ?_);show (⟨0,[],{ stS with free:=wrap64 (F - t - 1),next:=wrap64 (t + 1) },askL hs (E ++ [⟨2,a,b,c,d,t⟩]) [t]⟩ : Eff) = _;rw [w1,w2];rfl
theorem ask_timer121_no {F t : Int} {hs : List Hn} {E : List Rq} {a b c d : Int} (f0 : 0 ≤ F - t) (t0 : 0 ≤ t) (t1 : t ≤ 64) (g : ¬ ((0 ≤ b ∧ b < (hs.length : Int) ∧ 0 ≤ c ∧ c < 4) ∧ (1 ≤ d ∧ d < 4294967296) ∧ t < F ∧ E.length < 16)) :
    ∃ z,¬ z = 0 ∧ doE 121 (askK F t) (askL hs E [a,b,c,d]) = ⟨z,[],askK F t,askL hs E [a,b,c,d]⟩:=by
  have hz : ¬ (timerE (askK F t) (askL hs E [a,b,c,d]) 2 a b c d).c = 0:=by
    show ¬ timerC _ _ b c d = 0;unfold timerC
    by_cases h1 : 0 ≤ b ∧ b < (hs.length : Int) ∧ 0 ≤ c ∧ c < 4
    · rw [if_pos (ask_has h1)]
      by_cases h2 : 1 ≤ d ∧ d < 4294967296
      · rw [if_pos h2]
        by_cases h3 : E.length < 16
        · rw [if_pos (ask_room h3),if_pos (by show F - t = 0 ∨ _; have : ¬ t < F:=fun h4 => g ⟨h1,h2,h4,h3⟩; exact .inl (by omega))]; decide
        · rw [if_neg (by rw [ask_full h3]; decide)]; decide
      · rw [if_neg h2]; decide
    · rw [if_neg (ask_hasnt h1)]; decide
  exact ⟨_,hz,(do_st 121 (by decide) (by decide) (k:=askK F t) (L:=askL hs E [a,b,c,d]) [] [a,b,c,d] (E:=timerE (askK F t) (askL hs E [a,b,c,d]) 2 a b c d) rfl rfl rfl (by show (1 : Int) ≤ 32; decide)).trans (if_neg hz)⟩
theorem ask_timer122 {F t : Int} {hs : List Hn} {E : List Rq} {a b c d : Int} (f0 : 0 ≤ F - t) (f1 : F - t ≤ 64) (t0 : 0 ≤ t) (t1 : t ≤ 64) (g : 0 ≤ b ∧ b < (hs.length : Int) ∧ 0 ≤ c ∧ c < 4) (gd : 1 ≤ d ∧ d < 4294967296) (gt : t < F) (hE : E.length < 16) :
    doE 122 (askK F t) (askL hs E [a,b,c,d]) = ⟨0,[],askK F (t + 1),askL hs (E ++ [⟨3,a,b,c,d,t⟩]) [t]⟩:=by
  have w1 : wrap64 (t + 1) = t + 1:=w64_id (by omega) (by omega);have w2 : wrap64 (F - t - 1) = F - (t + 1):=(w64_id (by omega) (by omega)).trans (by omega);have hz : timerC (askK F t) (askL hs E [a,b,c,d]) b c d = 0:=by
    unfold timerC;rw [if_pos (ask_has g),if_pos gd,if_pos (ask_room hE),if_neg (by show ¬ (F - t = 0 ∨ t = 4611686018427387904); omega)]
  refine (do_st 122 (by decide) (by decide) (k:=askK F t) (L:=askL hs E [a,b,c,d]) [] [a,b,c,d] (E:=timerE (askK F t) (askL hs E [a,b,c,d]) 3 a b c d) rfl rfl rfl (by show (1 : Int) ≤ 32; decide)).trans ((if_pos hz).trans ?_);show (⟨0,[],{ stS with free:=wrap64 (F - t - 1),next:=wrap64 (t + 1) },askL hs (E ++ [⟨3,a,b,c,d,t⟩]) [t]⟩ : Eff) = _;rw [w1,w2];rfl
theorem ask_timer122_no {F t : Int} {hs : List Hn} {E : List Rq} {a b c d : Int} (f0 : 0 ≤ F - t) (t0 : 0 ≤ t) (t1 : t ≤ 64) (g : ¬ ((0 ≤ b ∧ b < (hs.length : Int) ∧ 0 ≤ c ∧ c < 4) ∧ (1 ≤ d ∧ d < 4294967296) ∧ t < F ∧ E.length < 16)) :
    ∃ z,¬ z = 0 ∧ doE 122 (askK F t) (askL hs E [a,b,c,d]) = ⟨z,[],askK F t,askL hs E [a,b,c,d]⟩:=by
  have hz : ¬ (timerE (askK F t) (askL hs E [a,b,c,d]) 3 a b c d).c = 0:=by
    show ¬ timerC _ _ b c d = 0;unfold timerC
    by_cases h1 : 0 ≤ b ∧ b < (hs.length : Int) ∧ 0 ≤ c ∧ c < 4
    · rw [if_pos (ask_has h1)]
      by_cases h2 : 1 ≤ d ∧ d < 4294967296
      · rw [if_pos h2]
        by_cases h3 : E.length < 16
        · rw [if_pos (ask_room h3),if_pos (by show F - t = 0 ∨ _; have : ¬ t < F:=fun h4 => g ⟨h1,h2,h4,h3⟩; exact .inl (by omega))]; decide
        · rw [if_neg (by rw [ask_full h3]; decide)]; decide
      · rw [if_neg h2]; decide
    · rw [if_neg (ask_hasnt h1)]; decide
  exact ⟨_,hz,(do_st 122 (by decide) (by decide) (k:=askK F t) (L:=askL hs E [a,b,c,d]) [] [a,b,c,d] (E:=timerE (askK F t) (askL hs E [a,b,c,d]) 3 a b c d) rfl rfl rfl (by show (1 : Int) ≤ 32; decide)).trans (if_neg hz)⟩
def askMay (r : Nat) (hn : Nat) (F t b c d : Int) : Prop :=
  if r = 0 then 0 ≤ c ∧ c < (hn : Int) ∧ 0 ≤ d ∧ d < 4
  else if r = 3 then True
  else (0 ≤ b ∧ b < (hn : Int) ∧ 0 ≤ c ∧ c < 4) ∧ (1 ≤ d ∧ d < 4294967296) ∧ t < F
def askQ (r : Nat) (t a b c d : Int) : Rq:=if r = 0 then ⟨1,b,c,d,0,0⟩ else if r = 3 then ⟨4,0,0,0,0,d⟩ else ⟨(r : Int) + 1,a,b,c,d,t⟩
def askD (r : Nat) (t a b c : Int) : List Int:=if r = 0 then [a] else if r = 3 then [a,b,c] else [t]
def askT (r : Nat) (t : Int) : Int:=if r = 1 ∨ r = 2 then t + 1 else t
theorem ask_all {r : Nat} (hr : r < 4) {F t : Int} {hs : List Hn} {E : List Rq} {a b c d : Int} (f0 : 0 ≤ F - t) (f1 : F - t ≤ 64) (t0 : 0 ≤ t) (t1 : t ≤ 64) :
    (askMay r hs.length F t b c d ∧ E.length < 16 → doE ((120 + r : Nat) : Int) (askK F t) (askL hs E [a,b,c,d]) = ⟨0,[],askK F (askT r t),askL hs (E ++ [askQ r t a b c d]) (askD r t a b c)⟩) ∧
    (¬ (askMay r hs.length F t b c d ∧ E.length < 16) → ∃ z,¬ z = 0 ∧ doE ((120 + r : Nat) : Int) (askK F t) (askL hs E [a,b,c,d]) = ⟨z,[],askK F t,askL hs E [a,b,c,d]⟩):=by
  have h : r = 0 ∨ r = 1 ∨ r = 2 ∨ r = 3:=by omega
  rcases h with rfl | rfl | rfl | rfl
  · exact ⟨fun g => ask_post g.1 g.2,fun g => ask_post_no fun g2 => g g2⟩
  · exact ⟨fun g => ask_timer121 f0 f1 t0 t1 g.1.1 g.1.2.1 g.1.2.2 g.2,fun g => ask_timer121_no f0 t0 t1 fun g2 => g ⟨⟨g2.1,g2.2.1,g2.2.2.1⟩,g2.2.2.2⟩⟩
  · exact ⟨fun g => ask_timer122 f0 f1 t0 t1 g.1.1 g.1.2.1 g.1.2.2 g.2,fun g => ask_timer122_no f0 t0 t1 fun g2 => g ⟨⟨g2.1,g2.2.1,g2.2.2.1⟩,g2.2.2.2⟩⟩
  · exact ⟨fun g => ask_cancel g.2,fun g => ask_cancel_no fun g2 => g ⟨trivial,g2⟩⟩
theorem do_eq {k K : VmK} {L : VmL} {n : Int} {E : Eff} (w : World) (HT : Tab w) (ok : Ok k L) (h : IsVm w k L) (s : Sc k K) (he : doE n K L = E) :
    Calls Tryz.prog 14 #[vmV k,.int .i64 n] w (DeedOut E k w):=by
  refine (do_any k L n w HT ok h).mono ?_;rintro e w1 ⟨j,rfl,hv,hs,hl,bb⟩;obtain ⟨s1,s2,s3,s4⟩:=doE_sc s n L;rw [he] at s1 s3 s4;exact ⟨j,by rw [s1],by rw [← s3]; exact hv,hs.trans s4,hl,bb⟩
end Go.Proofs.YtlgnijhemfkflaaGreatDoor

namespace Go.Proofs.YtlgnijhemfkflaaGreatDoor
open Go.RowKit


structure Free (k : VmK) (b : Nat) : Prop where
  p : k.pn = 0 ∨ ∀ q,k.pA = some q → q.block ≠ b
  d : k.dn = 0 ∨ ∀ q,k.dA = some q → q.block ≠ b
  r : k.rn = 0 ∨ ∀ q,k.rA = some q → q.block ≠ b
  f : k.fn = 0 ∨ ∀ q,k.fA = some q → q.block ≠ b
  w : k.wn = 0 ∨ ∀ q,k.wA = some q → q.block ≠ b
  e : k.en = 0 ∨ ∀ q,k.eA = some q → q.block ≠ b
  h : k.hn = 0 ∨ ∀ q,k.hA = some q → q.block ≠ b
theorem fl_len {α : Type} {enc : α → List Value} (s : Nat) (hs : ∀ y,(enc y).length = s) (l : List α) : (l.flatMap enc).length = l.length * s:=by
  rw [List.length_flatMap,show (l.map fun y => (enc y).length) = l.map fun _ => s from List.map_congr_left fun y _ => hs y,List.map_const',List.sum_replicate_nat]
theorem lies_low {w : World} {A : Option Addr} {xs : List Value} {n s b : Nat} (h : Lies w A xs) (e : xs.length = n * s) (hs : 0 < s) (hb : w.heap.size ≤ b) : n = 0 ∨ ∀ q,A = some q → q.block ≠ b:=by
  rcases h with h | ⟨g,o,ea,hg,_⟩
  · rw [h] at e
    have e : 0 = n * s:=e
    rcases Nat.mul_eq_zero.1 e.symm with h | h
    · exact .inl h
    · omega
  · refine .inr fun q hq eb => ?_
    rw [ea] at hq;cases hq
    simp at eb;omega
theorem free_of {w : World} {k : VmK} {L : VmL} {b : Nat} (h : IsVm w k L) (hb : w.heap.size ≤ b) : Free k b:=by
  refine ⟨?_,?_,?_,?_,?_,?_,?_⟩
  · obtain ⟨b0,o0,e,_,A,c,qs,h1,h2,h3,h4,h5⟩:=h.m
    injection e with e
    simp at e;obtain ⟨_,rfl⟩:=e;injection h1 with h1 hn hc
    subst h1;exact lies_low (n:=k.pn) (s:=2) h4 (by rw [pc_len,h5.1,hn]; omega) (by decide) hb
  · exact lies_low (n:=k.dn) (s:=1) h.d.2.2.2 (by rw [ints_len,h.d.1,Nat.mul_one]) (by decide) hb
  · exact lies_low (n:=k.rn) (s:=1) h.r.2.2.2 (by rw [ints_len,h.r.1,Nat.mul_one]) (by decide) hb
  · exact lies_low (n:=k.fn) (s:=3) h.f.lies (by rw [fl_len 3 (fun _ => rfl),h.f.len]) (by decide) hb
  · have hl:=h.dict.len
    exact lies_low (n:=k.wn) (s:=3) h.dict.lies (by rw [wds_len,hl]) (by decide) hb
  · exact lies_low (n:=k.en) (s:=6) h.e.lies (by rw [fl_len 6 (fun _ => rfl),h.e.len]) (by decide) hb
  · exact lies_low (n:=k.hn) (s:=4) h.h.lies (by rw [fl_len 4 (fun _ => rfl),h.h.len]) (by decide) hb
theorem newA_free {B n' n b : Nat} {A' A : Option Addr} (h : NewA B A' n' A n) (f : n = 0 ∨ ∀ q,A = some q → q.block ≠ b) (hb : b < B) : n' = 0 ∨ ∀ q,A' = some q → q.block ≠ b:=by
  rcases h with ⟨rfl,rfl⟩ | h
  · exact f
  · exact .inr fun q hq e => by have:=h q hq; omega
theorem free_loc {B b : Nat} {j k : VmK} (l : MLoc B j k) (f : Free k b) (hb : b < B) : Free j b :=
  ⟨newA_free l.p f.p hb,newA_free l.d f.d hb,by rw [l.r.1,l.r.2]; exact f.r,by rw [l.f.1,l.f.2]; exact f.f,by rw [l.w.1,l.w.2]; exact f.w,newA_free l.e f.e hb,by rw [l.h.1,l.h.2]; exact f.h⟩
theorem free_d {k : VmK} {b : Nat} (f : Free k b) (g n c : Nat) (hg : g ≠ b) : Free { k with dA:=some ⟨g,0,none⟩,dn:=n,dc:=c } b :=
  ⟨f.p,.inr fun q hq e => by cases hq; exact hg e,f.r,f.f,f.w,f.e,f.h⟩
theorem lies_free {u V : World} {A : Option Addr} {xs : List Value} {n s b : Nat} (h : Lies u A xs) (e : xs.length = n * s) (f : n = 0 ∨ ∀ q,A = some q → q.block ≠ b) (x : Ex (fun g => g = b) u V) : Lies V A xs:=by
  rcases f with f | f
  · refine .inl (List.eq_nil_of_length_eq_zero ?_)
    rw [e,f,Nat.zero_mul]
  · rcases h with h | ⟨g,o,ea,hg,hc⟩
    · exact .inl h
    · have hgb : g ≠ b:=f _ ea
      refine .inr ⟨g,o,ea,Nat.lt_of_lt_of_le hg x.size,fun i v hi => ?_⟩;have:=hc i v hi;unfold World.cell? at this ⊢;rw [x.same g hg hgb];exact this
theorem rws_free {α : Type} {enc : α → List Value} {s : Nat} (hs : ∀ y,(enc y).length = s) {u V : World} {A : Option Addr} {n c b : Nat} {l : List α} (h : Rws enc u (.slice A n c) l) (f : n = 0 ∨ ∀ q,A = some q → q.block ≠ b) (x : Ex (fun g => g = b) u V) : Rws enc V (.slice A n c) l:=by
  have h4:=lies_free (n:=n) (s:=s) h.lies (by rw [fl_len s hs,h.len]) f x;obtain ⟨A',c',e,h1,h2,_⟩:=h;exact ⟨A',c',e,h1,h2,by injection e with e1 _ _; subst e1; exact h4⟩
theorem isvm_free {u V : World} {k j : VmK} {L : VmL} {b : Nat} (h : IsVm u k L) (f : Free k b) (x : Ex (fun g => g = b) u V) (hb : VBox u b j) : IsVm V k L:=by
  have hv : ∀ g,g < u.heap.size → V.heap[g]? = u.heap[g]? ∨ NoU8 u g:=fun g hg => by
    by_cases e : g = b
    · subst e; exact .inr (vbox_nou8 hb)
    · exact .inl (x.same g hg e)
  refine ⟨?_,⟨h.d.1,h.d.2.1,h.d.2.2.1,lies_free (n:=k.dn) (s:=1) h.d.2.2.2 (by rw [ints_len,h.d.1,Nat.mul_one]) f.d x⟩,⟨h.r.1,h.r.2.1,h.r.2.2.1,lies_free (n:=k.rn) (s:=1) h.r.2.2.2 (by rw [ints_len,h.r.1,Nat.mul_one]) f.r x⟩,
    rws_free (s:=3) (fun _ => rfl) h.f f.f x,?_,byt_across h.o x.size hv,byt_across h.q x.size hv,rws_free (s:=6) (fun _ => rfl) h.e f.e x,rws_free (s:=4) (fun _ => rfl) h.h f.h x⟩
  · obtain ⟨b0,o0,e,h0,A,c,qs,h1,h2,h3,h4,h5⟩:=h.m
    have e9:=e;injection e with e
    simp at e;obtain ⟨rfl,rfl⟩:=e;have hh:=h1;injection h1 with h1 hn hc
    subst h1;exact ⟨_,_,rfl,byt_across h0 x.size hv,_,_,qs,hh,h2,h3,lies_free (n:=k.pn) (s:=2) h4 (by rw [pc_len,h5.1,hn]; omega) f.p x,h5.1,fun i q p hq hp => ⟨(h5.2 i q p hq hp).1,byt_across (h5.2 i q p hq hp).2 x.size hv⟩⟩
  · have hl:=h.dict.len
    have h4:=lies_free (n:=k.wn) (s:=3) h.dict.lies (by rw [wds_len,hl]) f.w x;obtain ⟨A',c',e,h1,h2,_⟩:=h.dict;exact ⟨A',c',e,h1,h2,by injection e with e1 _ _; subst e1; exact h4⟩
theorem row_free {u V : World} {A : Option Addr} {n c b : Nat} {l : List Int} (h : Row u A n c l) (f : n = 0 ∨ ∀ q,A = some q → q.block ≠ b) (x : Ex (fun g => g = b) u V) : Row V A n c l:=⟨h.1,h.2.1,h.2.2.1,lies_free (n:=n) (s:=1) h.2.2.2 (by rw [ints_len,h.1,Nat.mul_one]) f x⟩
theorem sc_d {k j : VmK} (h : Sc k j) (A : Option Addr) (n c : Nat) : Sc { k with dA:=A,dn:=n,dc:=c } j:=⟨h.cm,h.cd,h.cr,h.cw,h.co,h.here,h.last,h.qo,h.free,h.next,h.arg,h.self,h.now⟩
theorem IsVm.set_d {w : World} {k : VmK} {L : VmL} (h : IsVm w k L) {A : Option Addr} {n c : Nat} {l : List Int} (r : Row w A n c l) : IsVm w { k with dA:=A,dn:=n,dc:=c } { L with d:=l }:=⟨h.m,r,h.r,h.f,h.dict,h.o,h.q,h.e,h.h⟩
end Go.Proofs.YtlgnijhemfkflaaGreatDoor
