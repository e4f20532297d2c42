/- Part 56. -/
import Derived.Test.YtlgnijhemfkflaaGreatDoorPartBS
import Derived.Test.YtlgnijhemfkflaaGreatDoorPartCC
set_option linter.unusedVariables false
set_option linter.unusedSimpArgs false
set_option maxRecDepth 100000
set_option maxHeartbeats 4000000

namespace Go.Proofs.YtlgnijhemfkflaaGreatDoor
open Go.RowKit


theorem right_write (x : PM) (p : Int) (b : List UInt8) (h : rightB x = true) : rightB (writeF x p b) = true:=by
  by_cases hw : okB x.1.length p b.length = true ∧ b ≠ []
  · have hl:=writeF_len x p b
    have e:=writeF_yes hw.1 hw.2;rw [rightB_eq _ _ hl];rw [rightB_eq x _ rfl] at h;simp only [Bool.and_eq_true,decide_eq_true_eq] at h ⊢;refine ⟨h.1,?_⟩;rw [e];show (x.2 ++ [(p,textF x p b.length)]).all _ = true;rw [List.all_append,h.2];have ht : ((textF x p b.length).length : Int) = b.length:=by rw [textF_len hw.1,Int.toNat_natCast]
    show (rightP x.1.length (p,textF x p b.length) && true) = true;rw [Bool.and_true];show okB x.1.length p ((textF x p b.length).length : Int) = true;rw [ht];exact hw.1
  · have e : writeF x p b = x:=by unfold writeF; rw [if_neg hw]
    rw [e];exact h
structure RightL (k : VmK) (L : VmL) : Prop where
  fit : fitsV k = true
  m : rightB L.m = true
  dict : dRight L.dict = true
  q : pRight k.qo L.q = true
  len : (L.m.1.length : Int) = k.cm
  h0 : 1368 ≤ k.here
  h1 : k.here ≤ k.cm
  f : L.f.all frB = true
  h : L.h.all hnB = true
  d : (L.d.length : Int) ≤ k.cd
  r : (L.r.length : Int) ≤ k.cr
  fl : L.f.length ≤ 64
  w : (L.dict.length : Int) ≤ k.cw
  o : (L.o.length : Int) ≤ k.co
  e : L.e.length ≤ 16
  free0 : 0 ≤ k.free
  free1 : k.free ≤ 64
  next0 : 0 ≤ k.next
  next1 : k.next ≤ 4611686018427387904
  hl : L.h.length ≤ 64
theorem right_of {k : VmK} {L : VmL} (l : Lens k L) (h : vRight k L = true) : RightL k L:=by
  unfold vRight at h;simp only [Bool.and_eq_true] at h;obtain ⟨g1,g2,g3,g4,g5,g6,g7,g8⟩:=h;unfold headB at g5;unfold tailB at g8;rw [decide_eq_true_eq] at g5 g8;obtain ⟨t1,t2,t3,t4,t5,t6,t7,t8,t9,t10,t11⟩:=g8;have:=l.m; have:=l.d; have:=l.r; have:=l.f; have:=l.dict; have:=l.o; have:=l.e; have:=l.h;exact ⟨g1,g2,g3,g4,by omega,g5.2.1,g5.2.2,g6,g7,by omega,by omega,by omega,by omega,by omega,by omega,t7,t8,t9,t10,by omega⟩
theorem right_to {k : VmK} {L : VmL} (l : Lens k L) (h : RightL k L) : vRight k L = true:=by
  have:=l.m; have:=l.d; have:=l.r; have:=l.f; have:=l.dict; have:=l.o; have:=l.e; have:=l.h;have:=h.len; have:=h.d; have:=h.r; have:=h.fl; have:=h.w; have:=h.o; have:=h.e; have:=h.hl;have g5 : headB k = true:=by unfold headB; rw [decide_eq_true_eq]; exact ⟨by omega,h.h0,h.h1⟩
  have g8 : tailB k = true:=by unfold tailB; rw [decide_eq_true_eq]; exact ⟨by omega,by omega,by omega,by omega,by omega,by omega,h.free0,h.free1,h.next0,h.next1,by omega⟩
  unfold vRight;rw [h.fit,h.m,h.dict,h.q,g5,h.f,h.h,g8];rfl
theorem RightL.sc {j k : VmK} {L : VmL} (s : Sc j k) (h : RightL k L) : RightL j L:=by
  have hf : fitsV j = fitsV k:=by unfold fitsV; rw [s.cm,s.cd,s.cr,s.cw,s.co]
  exact ⟨by rw [hf]; exact h.fit,h.m,h.dict,by rw [s.qo]; exact h.q,by rw [s.cm]; exact h.len,by rw [s.here]; exact h.h0,by rw [s.here,s.cm]; exact h.h1,h.f,h.h,by rw [s.cd]; exact h.d,by rw [s.cr]; exact h.r,h.fl,by rw [s.cw]; exact h.w,by rw [s.co]; exact h.o,h.e,by rw [s.free]; exact h.free0,by rw [s.free]; exact h.free1,by rw [s.next]; exact h.next0,by rw [s.next]; exact h.next1,h.hl⟩
structure Keeps (k : VmK) (L : VmL) (E : Eff) : Prop where
  r : E.L.r = L.r
  f : E.L.f = L.f
  dict : E.L.dict = L.dict
  h : E.L.h = L.h
  cm : E.K.cm = k.cm
  cd : E.K.cd = k.cd
  cr : E.K.cr = k.cr
  cw : E.K.cw = k.cw
  co : E.K.co = k.co
  last : E.K.last = k.last
  arg : E.K.arg = k.arg
  self : E.K.self = k.self
  now : E.K.now = k.now
def Step (k : VmK) (L : VmL) (E : Eff) : Prop:=Keeps k L E ∧ (RightL k L → E.c = 0 → RightL E.K { E.L with d:=L.d })
theorem step_pure (k : VmK) (L : VmL) (c : Int) (o : List Int) : Step k L ⟨c,o,k,L⟩:=⟨⟨rfl,rfl,rfl,rfl,rfl,rfl,rfl,rfl,rfl,rfl,rfl,rfl,rfl⟩,fun h _ => h⟩
theorem step_mem (k : VmK) (L : VmL) (m : PM) (c : Int) (hm : rightB L.m = true → rightB m = true) (hl : m.1.length = L.m.1.length) : Step k L (memE k L m c) :=
  ⟨⟨rfl,rfl,rfl,rfl,rfl,rfl,rfl,rfl,rfl,rfl,rfl,rfl,rfl⟩,fun h _ => ⟨h.fit,hm h.m,h.dict,h.q,by show (m.1.length : Int) = k.cm; rw [hl]; exact h.len,h.h0,h.h1,h.f,h.h,h.d,h.r,h.fl,h.w,h.o,h.e,h.free0,h.free1,h.next0,h.next1,h.hl⟩⟩
theorem step_here (k : VmK) (L : VmL) (m : PM) (p c : Int) (hm : rightB L.m = true → rightB m = true) (hl : m.1.length = L.m.1.length) (hp : 1368 ≤ k.here → k.here ≤ (L.m.1.length : Int) → c = 0 → 1368 ≤ p ∧ p ≤ (L.m.1.length : Int)) : Step k L (hereE k L m p c) :=
  ⟨⟨rfl,rfl,rfl,rfl,rfl,rfl,rfl,rfl,rfl,rfl,rfl,rfl,rfl⟩,fun h hc => by
    have:=h.len;have hh:=hp h.h0 (by have:=h.h1; omega) hc
    exact ⟨h.fit,hm h.m,h.dict,h.q,by show (m.1.length : Int) = k.cm; rw [hl]; exact h.len,hh.1,by show p ≤ k.cm; omega,h.f,h.h,h.d,h.r,h.fl,h.w,h.o,h.e,h.free0,h.free1,h.next0,h.next1,h.hl⟩⟩
theorem step_print (k : VmK) (L : VmL) (s : List UInt8) (c : Int) : Step k L (printE k L s c) :=
  ⟨⟨rfl,rfl,rfl,rfl,rfl,rfl,rfl,rfl,rfl,rfl,rfl,rfl,rfl⟩,fun h _ => ⟨h.fit,h.m,h.dict,h.q,h.len,h.h0,h.h1,h.f,h.h,h.d,h.r,h.fl,h.w,by
    show ((printL L.o s k.co).length : Int) ≤ k.co;have:=h.o;unfold printL
    split
    · exact h.o
    · rw [List.length_append]; omega,h.e,h.free0,h.free1,h.next0,h.next1,h.hl⟩⟩
theorem step_pic (k : VmK) (L : VmL) (q : List UInt8) (on : Bool) (o : List Int) (c : Int) (hq : pRight k.qo L.q = true → c = 0 → pRight on q = true) : Step k L (picE k L q on o c) :=
  ⟨⟨rfl,rfl,rfl,rfl,rfl,rfl,rfl,rfl,rfl,rfl,rfl,rfl,rfl⟩,fun h hc => ⟨h.fit,h.m,h.dict,hq h.q hc,h.len,h.h0,h.h1,h.f,h.h,h.d,h.r,h.fl,h.w,h.o,h.e,h.free0,h.free1,h.next0,h.next1,h.hl⟩⟩
theorem step_ask (k : VmK) (L : VmL) (q : Rq) (c : Int) (hc : c = 0 → postC L = 0) : Step k L ⟨c,[],k,{ L with e:=L.e ++ [q] }⟩ :=
  ⟨⟨rfl,rfl,rfl,rfl,rfl,rfl,rfl,rfl,rfl,rfl,rfl,rfl,rfl⟩,fun h h0 => ⟨h.fit,h.m,h.dict,h.q,h.len,h.h0,h.h1,h.f,h.h,h.d,h.r,h.fl,h.w,h.o,by
    show (L.e ++ [q]).length ≤ 16;have:=hc h0;unfold postC at this
    split at this
    · rw [List.length_append]; show L.e.length + 1 ≤ 16; omega
    · exact absurd this (by decide),h.free0,h.free1,h.next0,h.next1,h.hl⟩⟩
theorem step_timer (k : VmK) (L : VmL) (kd x hd r d : Int) : Step k L (timerE k L kd x hd r d) :=
  ⟨⟨rfl,rfl,rfl,rfl,rfl,rfl,rfl,rfl,rfl,rfl,rfl,rfl,rfl⟩,fun h h0 => by
    have hc : timerC k L hd r d = 0:=h0;unfold timerC at hc
    split at hc
    · split at hc
      · split at hc
        · split at hc
          · cases hc
          · rename_i h1 h2 h3 h4
            have hp : L.e.length < 16:=by
              unfold postC at h3
              split at h3
              · assumption
              · cases h3
            have a1:=h.free0; have a2:=h.free1; have a3:=h.next0; have a4:=h.next1;have w1 : wrap64 (k.free - 1) = k.free - 1:=w64_id (by omega) (by omega);have w2 : wrap64 (k.next + 1) = k.next + 1:=w64_id (by omega) (by omega);exact ⟨h.fit,h.m,h.dict,h.q,h.len,h.h0,h.h1,h.f,h.h,h.d,h.r,h.fl,h.w,h.o,by show (L.e ++ [_]).length ≤ 16; rw [List.length_append]; show L.e.length + 1 ≤ 16; omega,by show 0 ≤ wrap64 (k.free - 1); rw [w1]; omega,by show wrap64 (k.free - 1) ≤ 64; rw [w1]; omega,by show 0 ≤ wrap64 (k.next + 1); rw [w2]; omega,by show wrap64 (k.next + 1) ≤ _; rw [w2]; omega,h.hl⟩
        · rename_i h3; unfold postC at h3; split at h3
          · exact absurd rfl h3
          · cases hc
      · cases hc
    · cases hc⟩
theorem store_right (m : PM) (p n : Int) (h : rightB m = true) : rightB (storeF m p n) = true:=by
  unfold storeF
  split
  · exact right_write _ _ _ h
  · exact h
theorem lay_right (m : PM) (p : Int) (b : List UInt8) (h : rightB m = true) : rightB (layM m p b) = true:=by
  unfold layM
  split
  · exact right_write _ _ _ h
  · exact h
theorem lay_len9 (m : PM) (p : Int) (b : List UInt8) : (layM m p b).1.length = m.1.length:=by
  unfold layM
  split
  · exact writeF_len _ _ _
  · rfl
theorem com_right (m : PM) (p n : Int) (h : rightB m = true) : rightB (comM m p n) = true:=by
  unfold comM
  split
  · exact lay_right _ _ _ h
  · exact h
theorem layP_in {L : Nat} {p : Int} {k : Nat} (h0 : 1368 ≤ p) (h1 : p ≤ (L : Int)) : 1368 ≤ layP L p k ∧ layP L p k ≤ (L : Int):=by
  unfold layP
  split
  · rename_i h
    have:=(roomB_iff _ _ _).1 h;omega
  · omega
theorem comP_in {L : Nat} {p : Int} (h0 : 1368 ≤ p) (h1 : p ≤ (L : Int)) : 1368 ≤ comP L p ∧ comP L p ≤ (L : Int):=by
  unfold comP
  split
  · exact layP_in h0 h1
  · omega
theorem movP_in {L : Nat} {p n : Int} (h0 : 1368 ≤ p) (h1 : p ≤ (L : Int)) : 1368 ≤ movP L 1368 p n ∧ movP L 1368 p n ≤ (L : Int):=by
  unfold movP
  split
  · rename_i h
    have:=(movB_iff _ _ _ _).1 h;omega
  · omega
theorem hold_right {o : Bool} {l : List UInt8} (x : UInt8) (h : pRight o l = true) (ho : pOpen o l = true) : pRight o (l ++ [x]) = true:=by
  have a:=(pOpen_iff _ _).1 ho;exact (pRight_iff _ _).2 ⟨by rw [List.length_append]; show l.length + 1 ≤ 130; omega,.inl a.1⟩
theorem fill_right (m : PM) (p n c : Int) (h : rightB m = true) : rightB (fillF m p n c) = true:=by
  unfold fillF
  split
  · exact right_write _ _ _ h
  · exact h
theorem fill_len9 (m : PM) (p n c : Int) : (fillF m p n c).1.length = m.1.length:=by
  unfold fillF
  split
  · exact writeF_len _ _ _
  · rfl
theorem move_right (m : PM) (f t n : Int) (h : rightB m = true) : rightB (moveF m f t n) = true:=by
  unfold moveF
  split
  · exact right_write _ _ _ h
  · exact h
theorem move_len9 (m : PM) (f t n : Int) : (moveF m f t n).1.length = m.1.length:=by
  unfold moveF
  split
  · exact writeF_len _ _ _
  · rfl
theorem dig_right {o : Bool} {l : List UInt8} {lo hi b : Int} (h : pRight o l = true) : pRight o (digL o l lo hi b) = true:=by
  unfold digL
  split
  · rename_i g
    unfold digOK at g;rw [Bool.and_eq_true] at g;exact hold_right _ h g.2
  · exact h
theorem all_right {o : Bool} {l : List UInt8} {lo hi b : Int} (h : pRight o l = true) : pRight o (allL o l lo hi b) = true:=by
  unfold allL
  split
  · rename_i g
    unfold allOK at g;rw [Bool.and_eq_true,decide_eq_true_eq] at g;exact (pRight_iff _ _).2 ⟨by rw [List.length_append,List.length_reverse]; exact g.2.2,.inl g.2.1⟩
  · exact h
theorem holdL_right {o : Bool} {l : List UInt8} {c : Int} (h : pRight o l = true) : pRight o (holdL o l c) = true:=by
  unfold holdL
  split
  · rename_i g
    exact hold_right _ h g
  · exact h
theorem sign_right {o : Bool} {l : List UInt8} {n : Int} (h : pRight o l = true) : pRight o (signL o l n) = true:=by
  unfold signL
  split
  · exact holdL_right h
  · exact h
theorem ask_zero {b : Bool} {c : Int} (h : (if b = true then c else -259) = 0) : c = 0:=by
  cases b with
  | true => rw [if_pos rfl] at h; exact h
  | false => rw [if_neg (by decide)] at h; cases h
theorem step_end (k : VmK) (L : VmL) (a b : Int) : Step k L (e117 k L a b) :=
  ⟨⟨rfl,rfl,rfl,rfl,rfl,rfl,rfl,rfl,rfl,rfl,rfl,rfl,rfl⟩,fun h _ => ⟨h.fit,right_write _ _ _ h.m,h.dict,(pRight_iff _ _).2 ⟨by show ([] : List UInt8).length ≤ 130; decide,.inr rfl⟩,by show ((writeF L.m _ _).1.length : Int) = k.cm; rw [writeF_len]; exact h.len,h.h0,h.h1,h.f,h.h,h.d,h.r,h.fl,h.w,h.o,h.e,h.free0,h.free1,h.next0,h.next1,h.hl⟩⟩
theorem eff_step (n : Nat) (h1 : n < 130) (k : VmK) (L : VmL) (x : List Int) : Step k L (effF n k L x):=by
  unfold effF
  by_cases q1 : n < 59
  · rw [if_pos q1]; exact step_pure _ _ _ _
  · rw [if_neg q1]
    by_cases q2 : n < 73
    · rw [if_pos q2]; exact step_pure _ _ _ _
    · rw [if_neg q2]
      have hn : n = 73 ∨ n = 74 ∨ n = 75 ∨ n = 76 ∨ n = 77 ∨ n = 78 ∨ n = 79 ∨ n = 80 ∨ n = 81 ∨ n = 82 ∨ n = 83 ∨ n = 84 ∨ n = 85 ∨ n = 86 ∨ n = 87 ∨ n = 88 ∨ n = 89 ∨ n = 90 ∨ n = 91 ∨ n = 92 ∨ n = 93 ∨ n = 94 ∨ n = 95 ∨ n = 96 ∨ n = 97 ∨ n = 98 ∨ n = 99 ∨ n = 100 ∨ n = 101 ∨ n = 102 ∨ n = 103 ∨ n = 104 ∨ n = 105 ∨ n = 106 ∨ n = 107 ∨ n = 108 ∨ n = 109 ∨ n = 110 ∨ n = 111 ∨ n = 112 ∨ n = 113 ∨ n = 114 ∨ n = 115 ∨ n = 116 ∨ n = 117 ∨ n = 118 ∨ n = 119 ∨ n = 120 ∨ n = 121 ∨ n = 122 ∨ n = 123 ∨ n = 124 ∨ n = 125 ∨ n = 126 ∨ n = 127 ∨ n = 128 ∨ n = 129:=by omega
      rcases hn with rfl | rfl | rfl | rfl | rfl | rfl | rfl | rfl | rfl | rfl | rfl | rfl | rfl | rfl | rfl | rfl | rfl | rfl | rfl | rfl | rfl | rfl | rfl | rfl | rfl | rfl | rfl | rfl | rfl | rfl | rfl | rfl | rfl | rfl | rfl | rfl | rfl | rfl | rfl | rfl | rfl | rfl | rfl | rfl | rfl | rfl | rfl | rfl | rfl | rfl | rfl | rfl | rfl | rfl | rfl | rfl | rfl
      · exact step_pure _ _ _ _
      · exact step_pure _ _ _ _
      · exact step_pure _ _ _ _
      · exact step_pure _ _ _ _
      · exact step_pure _ _ _ _
      · exact step_pure _ _ _ _
      · exact step_pure _ _ _ _
      · exact step_pure _ _ _ _
      · exact step_pure _ _ _ _
      · exact step_pure _ _ _ _
      · exact step_pure _ _ _ _
      · exact step_mem _ _ _ _ (fun h => store_right _ _ _ h) (store_len9 _ _ _)
      · exact step_mem _ _ _ _ (fun h => store_right _ _ _ h) (store_len9 _ _ _)
      · exact step_pure _ _ _ _
      · exact step_mem _ _ _ _ (fun h => right_write _ _ _ h) (writeF_len _ _ _)
      · exact step_pure _ _ _ _
      · exact step_mem _ _ _ _ (fun h => store_right _ _ _ (store_right _ _ _ h)) ((store_len9 _ _ _).trans (store_len9 _ _ _))
      · exact step_mem _ _ _ _ (fun h => fill_right _ _ _ _ h) (fill_len9 _ _ _ _)
      · exact step_mem _ _ _ _ (fun h => move_right _ _ _ _ h) (move_len9 _ _ _ _)
      · exact step_pure _ _ _ _
      · exact step_pure _ _ _ _
      · exact step_here _ _ _ _ _ (fun h => h) rfl (fun h0 h1 _ => movP_in h0 h1)
      · exact step_here _ _ _ _ _ (fun h => com_right _ _ _ h) (com_len _ _ _) (fun h0 h1 _ => comP_in h0 h1)
      · exact step_here _ _ _ _ _ (fun h => lay_right _ _ _ h) (lay_len9 _ _ _) (fun h0 h1 _ => layP_in h0 h1)
      · exact step_here _ _ _ _ _ (fun h => lay_right _ _ _ h) (lay_len9 _ _ _) (fun h0 h1 _ => layP_in h0 h1)
      · exact step_pure _ _ _ _
      · exact step_pure _ _ _ _
      · exact step_pure _ _ _ _
      · exact step_pure _ _ _ _
      · exact step_pure _ _ _ _
      · exact step_mem _ _ _ _ (fun h => store_right _ _ _ h) (store_len9 _ _ _)
      · exact step_mem _ _ _ _ (fun h => store_right _ _ _ h) (store_len9 _ _ _)
      · exact step_print _ _ _ _
      · exact step_print _ _ _ _
      · exact step_print _ _ _ _
      · exact step_print _ _ _ _
      · exact step_print _ _ _ _
      · exact step_print _ _ _ _
      · exact step_print _ _ _ _
      · exact step_pic _ _ _ _ _ _ (fun _ _ => by decide)
      · exact step_pic _ _ _ _ _ _ (fun h _ => dig_right h)
      · exact step_pic _ _ _ _ _ _ (fun h _ => all_right h)
      · exact step_pic _ _ _ _ _ _ (fun h _ => holdL_right h)
      · exact step_pic _ _ _ _ _ _ (fun h _ => sign_right h)
      · exact step_end _ _ (x.getD 0 0) (x.getD 1 0)
      · exact step_pure _ _ _ _
      · exact step_pure _ _ _ _
      · exact step_ask _ _ _ _ (fun hc => ask_zero hc)
      · exact step_timer _ _ _ _ _ _ _
      · exact step_timer _ _ _ _ _ _ _
      · exact step_ask _ _ _ _ (fun hc => hc)
      · exact step_pure _ _ _ _
      · exact step_pure _ _ _ _
      · exact step_pure _ _ _ _
      · exact step_mem _ _ _ _ (fun h => store_right _ _ _ h) (store_len9 _ _ _)
      · exact step_mem _ _ _ _ (fun h => store_right _ _ _ h) (store_len9 _ _ _)
      · exact step_pure _ _ _ _
theorem shuf_len {s : List UInt8} {l : List Int} {c : Int} (hl : (l.length : Int) ≤ c) : ((listR (resF (kindF s) l) l c).length : Int) ≤ c:=by
  unfold listR
  split <;> (try split) <;> first | assumption | omega
theorem shuf_no {r : Res} {l : List Int} {c : Int} (h : ¬ codeR r c = 0) : listR r l c = l:=by
  unfold codeR at h;unfold listR
  split <;> simp_all
theorem do_step (n : Int) (k : VmK) (L : VmL) : Keeps k L (doE n k L) ∧ (¬ (doE n k L).c = 0 → (doE n k L).L = L ∧ (doE n k L).K = k) ∧ (RightL k L → RightL (doE n k L).K (doE n k L).L):=by
  unfold doE
  by_cases c1 : 23 ≤ n ∧ n ≤ 129
  · rw [if_pos c1]
    by_cases c2 : n ≤ 38
    · rw [if_pos c2]
      refine ⟨⟨rfl,rfl,rfl,rfl,rfl,rfl,rfl,rfl,rfl,rfl,rfl,rfl,rfl⟩,fun h => ⟨?_,rfl⟩,fun h => ⟨h.fit,h.m,h.dict,h.q,h.len,h.h0,h.h1,h.f,h.h,shuf_len h.d,h.r,h.fl,h.w,h.o,h.e,h.free0,h.free1,h.next0,h.next1,h.hl⟩⟩;show ({ L with d:=listR (resF (kindF (nmP n.toNat)) L.d) L.d k.cd } : VmL) = L;rw [shuf_no h]
    · rw [if_neg c2]
      obtain ⟨s1,s2⟩:=eff_step n.toNat (by omega) k L (L.d.drop (L.d.length - takesF n.toNat));unfold deedE
      by_cases d1 : L.d.length < takesF n.toNat
      · rw [if_pos d1]; exact ⟨⟨rfl,rfl,rfl,rfl,rfl,rfl,rfl,rfl,rfl,rfl,rfl,rfl,rfl⟩,fun _ => ⟨rfl,rfl⟩,fun h => h⟩
      · rw [if_neg d1]
        by_cases d2 : (effF n.toNat k L (L.d.drop (L.d.length - takesF n.toNat))).c = 0
        · rw [if_pos d2]
          by_cases d3 : k.cd < ((L.d.length - takesF n.toNat + (effF n.toNat k L (L.d.drop (L.d.length - takesF n.toNat))).o.length : Nat) : Int)
          · rw [if_pos d3]; exact ⟨⟨rfl,rfl,rfl,rfl,rfl,rfl,rfl,rfl,rfl,rfl,rfl,rfl,rfl⟩,fun _ => ⟨rfl,rfl⟩,fun h => h⟩
          · rw [if_neg d3]
            refine ⟨⟨s1.r,s1.f,s1.dict,s1.h,s1.cm,s1.cd,s1.cr,s1.cw,s1.co,s1.last,s1.arg,s1.self,s1.now⟩,fun h => absurd rfl h,fun h => ?_⟩;have g:=s2 h d2;refine ⟨g.fit,g.m,g.dict,g.q,g.len,g.h0,g.h1,g.f,g.h,?_,g.r,g.fl,g.w,g.o,g.e,g.free0,g.free1,g.next0,g.next1,g.hl⟩;show ((L.d.take (L.d.length - takesF n.toNat) ++ _).length : Int) ≤ _;rw [s1.cd,List.length_append,List.length_take];omega
        · rw [if_neg d2]; exact ⟨⟨rfl,rfl,rfl,rfl,rfl,rfl,rfl,rfl,rfl,rfl,rfl,rfl,rfl⟩,fun _ => ⟨rfl,rfl⟩,fun h => h⟩
  · rw [if_neg c1]; exact ⟨⟨rfl,rfl,rfl,rfl,rfl,rfl,rfl,rfl,rfl,rfl,rfl,rfl,rfl⟩,fun _ => ⟨rfl,rfl⟩,fun h => h⟩
end Go.Proofs.YtlgnijhemfkflaaGreatDoor
