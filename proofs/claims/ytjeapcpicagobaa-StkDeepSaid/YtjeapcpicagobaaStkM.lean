/- A contract of the document's Shuffle, at each name: the same plain function. -/
import Derived.Test.YtjeapcpicagobaaStkL
import Derived.Test.YtjeapcpicagobaaStkH
namespace Go.Proofs.Ytjeapcpicagobaa
open Go.RowKit
set_option linter.unusedVariables false
set_option linter.unusedSimpArgs false

/-- What Shuffle answers of a result. -/
def Shuf (r : Res) (l : List Int) (limit : Int) (w : World) (e : Ending) (w' : World) : Prop := ∃ B m d, e = .returned (.tuple #[.slice B m d, .bool (knownR r), .int .i64 (codeR r limit)]) ∧ Row w' B m d (listR r l limit) ∧ Below w.heap.size w w'

theorem RAns.fin {A : Option Addr} {n c : Nat} {limit : Int} {O l : List Int} {w w' : World} {e : Ending} (h : RAns A n c limit O w e w') (HR : Row w A n c l) : Shuf (.out O) l limit w e w' := by
  obtain ⟨B, m, d, rfl, h1, h2, h3⟩ := h
  refine ⟨B, m, d, rfl, ?_, h3⟩
  by_cases hlim : limit < (O.length : Int)
  · obtain ⟨rfl, rfl, rfl⟩ := h1 hlim
    simp only [listR, if_pos hlim]
    exact HR.keep h3
  · simp only [listR, if_neg hlim]
    exact h2 hlim

theorem rest_some {g o p c : Nat} (h : c ≠ p) : restAt (some ⟨g, o, none⟩) p c = some ⟨g, o + p, none⟩ := by
  unfold restAt
  rw [if_neg h]
  simp [add_at]

theorem no_fin {A : Option Addr} {n c : Nat} {limit : Int} {l : List Int} {w : World} {s : ByteArray} (HR : Row w A n c l) (h : Calls Try.prog 16 #[.string s, .slice A n c, .int .i64 limit] w fun e w' => e = .returned (.tuple #[.slice A n c, .bool false, .int .i64 0]) ∧ w = w') :
    Calls Try.prog 16 #[.string s, .slice A n c, .int .i64 limit] w (Shuf .no l limit w) := by
  refine h.mono ?_
  rintro e w' ⟨rfl, rfl⟩
  exact ⟨_, _, _, rfl, HR, Below.refl _ _⟩
theorem under_fin {A : Option Addr} {n c : Nat} {limit : Int} {l : List Int} {w : World} {s : ByteArray} (HR : Row w A n c l) (h : Calls Try.prog 16 #[.string s, .slice A n c, .int .i64 limit] w fun e w' => e = .returned (.tuple #[.slice A n c, .bool true, .int .i64 (-4)]) ∧ w = w') :
    Calls Try.prog 16 #[.string s, .slice A n c, .int .i64 limit] w (Shuf .under l limit w) := by
  refine h.mono ?_
  rintro e w' ⟨rfl, rfl⟩
  exact ⟨_, _, _, rfl, HR, Below.refl _ _⟩

/-- The way where there are cells enough. -/
theorem rout (A : Option Addr) (low t c : Nat) (s : ByteArray) (limit : Int) (l O X : List Int) (w : World) (hn : low + t ≤ 60000) (hX : X.length ≤ 60002) (hO : O = l.take low ++ X)
    (HT : Calls Try.prog 21 #[.string s, .slice A (low + t) c] w fun e w' => e = .returned (.int .i64 (t : Int)) ∧ w = w')
    (HR : Row w A (low + t) c l)
    (HF : ∀ W, Since w W → Row W (restAt A low c) t (c - low) (l.drop low) → Calls Try.prog 22 #[.string s, .slice (restAt A low c) t (c - low), .int .i64 ((low : Int) + (t : Int))] W (Lefts X W)) :
    Calls Try.prog 16 #[.string s, .slice A (low + t) c, .int .i64 limit] w (Shuf (.out O) l limit w) := by
  subst hO
  have hc := HR.2.1
  have hm := HR.2.2.1
  unfold maxLen at hm
  have hrr := HR.rest (k := low) (by omega)
  rw [show low + t - low = t by omega] at hrr
  refine (rshuffle_core A (restAt A low c) low t c (c - low) s limit (l.take low) X w hn (by omega) (by omega) hX (Lib.hid HT) (Lib.hid (HR.high (by omega))) (fun w => ?_) (Lib.hid fun W hW => HF W hW (hrr.keep hW))).mono fun e w' h => h.fin HR
  have := run_rest (A := A) (c := c) w (show low ≤ low + t by omega)
  rwa [show low + t - low = t by omega] at this

theorem Row.at_ {w : World} {g o n c : Nat} {l : List Int} (h : Row w (some ⟨g, o, none⟩) n c l) (hn : 0 < n) : g < w.heap.size ∧ ∀ j, j < n → w.cell? ⟨g, o + j, none⟩ = some (.int .i64 (l.getD j 0)) := by
  obtain ⟨g', o', e, hg, hc⟩ := h.cells hn
  injection e with e
  injection e with e1 e2
  subst e1 e2
  exact ⟨hg, hc⟩

theorem drop_getD (l : List Int) (low j : Nat) : (l.drop low).getD j 0 = l.getD (low + j) 0 := by simp [List.getD, List.getElem?_drop]

theorem rtext (A : Option Addr) (n c k : Nat) (idx : List Nat) (s : ByteArray) (limit : Int) (l : List Int) (w : World) (hn : n ≤ 50000) (hk : 0 < k) (h10 : idx.length ≤ 10)
    (HT : Calls Try.prog 21 #[.string s, .slice A n c] w fun e w' => e = .returned (.int .i64 (k : Int)) ∧ w = w')
    (HR : Row w A n c l)
    (HF : ∀ (g o c : Nat) (x : Nat → Int) (d : Int) (W : World), g < W.heap.size → (∀ j, j < k → W.cell? ⟨g, o + j, none⟩ = some (.int .i64 (x j))) → Calls Try.prog 22 #[.string s, .slice (some ⟨g, o, none⟩) k c, .int .i64 d] W (Lefts (idx.map x) W)) :
    Calls Try.prog 16 #[.string s, .slice A n c, .int .i64 limit] w (Shuf (resF (.perm k idx) l) l limit w) := by
  have hl := HR.1
  by_cases h : n < k
  · have e : resF (.perm k idx) l = .under := by simp only [resF]; rw [if_pos (by omega)]
    rw [e]
    exact under_fin HR (rshuffle_under A n c k s limit w (by omega) (Lib.hid HT))
  · obtain ⟨low, rfl⟩ : ∃ low, n = low + k := ⟨n - k, by omega⟩
    have e : resF (.perm k idx) l = .out (leftL l low idx) := by
      simp only [resF]
      rw [if_neg (by omega), hl, Nat.add_sub_cancel]
    rw [e]
    obtain ⟨g, o, rfl, _, _⟩ := HR.cells (by omega)
    refine rout (some ⟨g, o, none⟩) low k c s limit l _ (idx.map fun i => l.getD (low + i) 0) w (by omega) (by simp; omega) rfl HT HR (fun W hW hrr => ?_)
    have hc := HR.2.1
    rw [rest_some (by omega)] at hrr ⊢
    obtain ⟨hg, hcc⟩ := hrr.at_ hk
    exact HF g (o + low) (c - low) (fun i => l.getD (low + i) 0) _ W hg (fun j hj => by rw [hcc j hj, drop_getD])

theorem rword_DUP (A : Option Addr) (n c : Nat) (limit : Int) (l : List Int) (w : World) (hn : n ≤ 50000) (HR : Row w A n c l) :
    Calls Try.prog 16 #[.string ⟨#[68, 85, 80]⟩, .slice A n c, .int .i64 limit] w (Shuf (resF (.perm 1 [0, 0]) l) l limit w) :=
  rtext A n c 1 [0, 0] _ limit l w hn (by omega) (by decide) (takes_DUP A n c w) HR fun g o c x d W hg h => (left_DUP g o c (x 0) d W hg (h 0 (by omega))).mono (by
    rintro e w' ⟨B, d', rfl, hr, hb⟩
    exact ⟨B, _, d', rfl, hr, hb⟩)
theorem rword_DROP (A : Option Addr) (n c : Nat) (limit : Int) (l : List Int) (w : World) (hn : n ≤ 50000) (HR : Row w A n c l) :
    Calls Try.prog 16 #[.string ⟨#[68, 82, 79, 80]⟩, .slice A n c, .int .i64 limit] w (Shuf (resF (.perm 1 []) l) l limit w) :=
  rtext A n c 1 [] _ limit l w hn (by omega) (by decide) (takes_DROP A n c w) HR fun g o c x d W hg h => (left_DROP g o c (x 0) d W hg (h 0 (by omega))).mono (by
    rintro e w' ⟨B, d', rfl, hr, hb⟩
    exact ⟨B, _, d', rfl, hr, hb⟩)
theorem rword_SWAP (A : Option Addr) (n c : Nat) (limit : Int) (l : List Int) (w : World) (hn : n ≤ 50000) (HR : Row w A n c l) :
    Calls Try.prog 16 #[.string ⟨#[83, 87, 65, 80]⟩, .slice A n c, .int .i64 limit] w (Shuf (resF (.perm 2 [1, 0]) l) l limit w) :=
  rtext A n c 2 [1, 0] _ limit l w hn (by omega) (by decide) (takes_SWAP A n c w) HR fun g o c x d W hg h => (left_SWAP g o c (x 0) (x 1) d W hg (h 0 (by omega)) (h 1 (by omega))).mono (by
    rintro e w' ⟨B, d', rfl, hr, hb⟩
    exact ⟨B, _, d', rfl, hr, hb⟩)
theorem rword_OVER (A : Option Addr) (n c : Nat) (limit : Int) (l : List Int) (w : World) (hn : n ≤ 50000) (HR : Row w A n c l) :
    Calls Try.prog 16 #[.string ⟨#[79, 86, 69, 82]⟩, .slice A n c, .int .i64 limit] w (Shuf (resF (.perm 2 [0, 1, 0]) l) l limit w) :=
  rtext A n c 2 [0, 1, 0] _ limit l w hn (by omega) (by decide) (takes_OVER A n c w) HR fun g o c x d W hg h => (left_OVER g o c (x 0) (x 1) d W hg (h 0 (by omega)) (h 1 (by omega))).mono (by
    rintro e w' ⟨B, d', rfl, hr, hb⟩
    exact ⟨B, _, d', rfl, hr, hb⟩)
theorem rword_NIP (A : Option Addr) (n c : Nat) (limit : Int) (l : List Int) (w : World) (hn : n ≤ 50000) (HR : Row w A n c l) :
    Calls Try.prog 16 #[.string ⟨#[78, 73, 80]⟩, .slice A n c, .int .i64 limit] w (Shuf (resF (.perm 2 [1]) l) l limit w) :=
  rtext A n c 2 [1] _ limit l w hn (by omega) (by decide) (takes_NIP A n c w) HR fun g o c x d W hg h => (left_NIP g o c (x 0) (x 1) d W hg (h 0 (by omega)) (h 1 (by omega))).mono (by
    rintro e w' ⟨B, d', rfl, hr, hb⟩
    exact ⟨B, _, d', rfl, hr, hb⟩)
theorem rword_TUCK (A : Option Addr) (n c : Nat) (limit : Int) (l : List Int) (w : World) (hn : n ≤ 50000) (HR : Row w A n c l) :
    Calls Try.prog 16 #[.string ⟨#[84, 85, 67, 75]⟩, .slice A n c, .int .i64 limit] w (Shuf (resF (.perm 2 [1, 0, 1]) l) l limit w) :=
  rtext A n c 2 [1, 0, 1] _ limit l w hn (by omega) (by decide) (takes_TUCK A n c w) HR fun g o c x d W hg h => (left_TUCK g o c (x 0) (x 1) d W hg (h 0 (by omega)) (h 1 (by omega))).mono (by
    rintro e w' ⟨B, d', rfl, hr, hb⟩
    exact ⟨B, _, d', rfl, hr, hb⟩)
theorem rword_ROT (A : Option Addr) (n c : Nat) (limit : Int) (l : List Int) (w : World) (hn : n ≤ 50000) (HR : Row w A n c l) :
    Calls Try.prog 16 #[.string ⟨#[82, 79, 84]⟩, .slice A n c, .int .i64 limit] w (Shuf (resF (.perm 3 [1, 2, 0]) l) l limit w) :=
  rtext A n c 3 [1, 2, 0] _ limit l w hn (by omega) (by decide) (takes_ROT A n c w) HR fun g o c x d W hg h => (left_ROT g o c (x 0) (x 1) (x 2) d W hg (h 0 (by omega)) (h 1 (by omega)) (h 2 (by omega))).mono (by
    rintro e w' ⟨B, d', rfl, hr, hb⟩
    exact ⟨B, _, d', rfl, hr, hb⟩)
theorem rword_mROT (A : Option Addr) (n c : Nat) (limit : Int) (l : List Int) (w : World) (hn : n ≤ 50000) (HR : Row w A n c l) :
    Calls Try.prog 16 #[.string ⟨#[45, 82, 79, 84]⟩, .slice A n c, .int .i64 limit] w (Shuf (resF (.perm 3 [2, 0, 1]) l) l limit w) :=
  rtext A n c 3 [2, 0, 1] _ limit l w hn (by omega) (by decide) (takes_mROT A n c w) HR fun g o c x d W hg h => (left_mROT g o c (x 0) (x 1) (x 2) d W hg (h 0 (by omega)) (h 1 (by omega)) (h 2 (by omega))).mono (by
    rintro e w' ⟨B, d', rfl, hr, hb⟩
    exact ⟨B, _, d', rfl, hr, hb⟩)
theorem rword_2DUP (A : Option Addr) (n c : Nat) (limit : Int) (l : List Int) (w : World) (hn : n ≤ 50000) (HR : Row w A n c l) :
    Calls Try.prog 16 #[.string ⟨#[50, 68, 85, 80]⟩, .slice A n c, .int .i64 limit] w (Shuf (resF (.perm 2 [0, 1, 0, 1]) l) l limit w) :=
  rtext A n c 2 [0, 1, 0, 1] _ limit l w hn (by omega) (by decide) (takes_2DUP A n c w) HR fun g o c x d W hg h => (left_2DUP g o c (x 0) (x 1) d W hg (h 0 (by omega)) (h 1 (by omega))).mono (by
    rintro e w' ⟨B, d', rfl, hr, hb⟩
    exact ⟨B, _, d', rfl, hr, hb⟩)
theorem rword_2DROP (A : Option Addr) (n c : Nat) (limit : Int) (l : List Int) (w : World) (hn : n ≤ 50000) (HR : Row w A n c l) :
    Calls Try.prog 16 #[.string ⟨#[50, 68, 82, 79, 80]⟩, .slice A n c, .int .i64 limit] w (Shuf (resF (.perm 2 []) l) l limit w) :=
  rtext A n c 2 [] _ limit l w hn (by omega) (by decide) (takes_2DROP A n c w) HR fun g o c x d W hg h => (left_2DROP g o c (x 0) (x 1) d W hg (h 0 (by omega)) (h 1 (by omega))).mono (by
    rintro e w' ⟨B, d', rfl, hr, hb⟩
    exact ⟨B, _, d', rfl, hr, hb⟩)
theorem rword_2SWAP (A : Option Addr) (n c : Nat) (limit : Int) (l : List Int) (w : World) (hn : n ≤ 50000) (HR : Row w A n c l) :
    Calls Try.prog 16 #[.string ⟨#[50, 83, 87, 65, 80]⟩, .slice A n c, .int .i64 limit] w (Shuf (resF (.perm 4 [2, 3, 0, 1]) l) l limit w) :=
  rtext A n c 4 [2, 3, 0, 1] _ limit l w hn (by omega) (by decide) (takes_2SWAP A n c w) HR fun g o c x d W hg h => (left_2SWAP g o c (x 0) (x 1) (x 2) (x 3) d W hg (h 0 (by omega)) (h 1 (by omega)) (h 2 (by omega)) (h 3 (by omega))).mono (by
    rintro e w' ⟨B, d', rfl, hr, hb⟩
    exact ⟨B, _, d', rfl, hr, hb⟩)
theorem rword_2OVER (A : Option Addr) (n c : Nat) (limit : Int) (l : List Int) (w : World) (hn : n ≤ 50000) (HR : Row w A n c l) :
    Calls Try.prog 16 #[.string ⟨#[50, 79, 86, 69, 82]⟩, .slice A n c, .int .i64 limit] w (Shuf (resF (.perm 4 [0, 1, 2, 3, 0, 1]) l) l limit w) :=
  rtext A n c 4 [0, 1, 2, 3, 0, 1] _ limit l w hn (by omega) (by decide) (takes_2OVER A n c w) HR fun g o c x d W hg h => (left_2OVER g o c (x 0) (x 1) (x 2) (x 3) d W hg (h 0 (by omega)) (h 1 (by omega)) (h 2 (by omega)) (h 3 (by omega))).mono (by
    rintro e w' ⟨B, d', rfl, hr, hb⟩
    exact ⟨B, _, d', rfl, hr, hb⟩)

theorem rword_qDUP (A : Option Addr) (n c : Nat) (limit : Int) (l : List Int) (w : World) (hn : n ≤ 50000) (HR : Row w A n c l) :
    Calls Try.prog 16 #[.string ⟨#[63, 68, 85, 80]⟩, .slice A n c, .int .i64 limit] w (Shuf (resF .qdup l) l limit w) := by
  have hl := HR.1
  have hc := HR.2.1
  cases n with
  | zero =>
    have e : resF .qdup l = .under := by simp only [resF]; rw [if_pos hl]
    rw [e]
    exact under_fin HR (rshuffle_under A 0 c 1 _ limit w (by omega) (Lib.hid (takes_qDUP A 0 c w)))
  | succ k =>
    have ht : topF l = l.getD k 0 := by simp only [topF, hl]; rfl
    obtain ⟨g, o, rfl, _, _⟩ := HR.cells (by omega)
    have htk : l.take k ++ [l.getD k 0] = l := by
      have := List.take_append_drop k l
      have e2 : l.drop k = [l.getD k 0] := by
        rw [List.drop_eq_getElem_cons (by omega), List.drop_eq_nil_of_le (by omega)]
        simp [List.getD, show k < l.length by omega]
      rw [← e2]
      exact this
    by_cases hz : l.getD k 0 = 0
    · have e : resF .qdup l = .out l := by simp only [resF, ht, hz]; rw [if_neg (by omega)]; rfl
      rw [e]
      refine rout (some ⟨g, o, none⟩) k 1 c _ limit l _ [0] w (by omega) (by simp) (by rw [hz] at htk; exact htk.symm) (takes_qDUP _ _ _ w) HR (fun W hW hrr => ?_)
      rw [rest_some (by omega)] at hrr ⊢
      obtain ⟨hg, hcc⟩ := hrr.at_ (by omega)
      have h0 := hcc 0 (by omega)
      rw [drop_getD, Nat.add_zero, Nat.add_zero, hz] at h0
      refine (left_qDUP_zero g (o + k) (c - k) _ W h0).mono ?_
      rintro e w' ⟨rfl, rfl⟩
      refine ⟨_, _, _, rfl, ?_, Below.refl _ _⟩
      have e2 : l.drop k = [0] := by
        rw [List.drop_eq_getElem_cons (by omega), List.drop_eq_nil_of_le (by omega)]
        simp [List.getD, show k < l.length by omega] at hz
        rw [hz]
      rw [e2] at hrr
      exact hrr
    · have e : resF .qdup l = .out (l ++ [l.getD k 0]) := by simp only [resF, ht]; rw [if_neg (by omega), if_neg hz]
      rw [e]
      refine rout (some ⟨g, o, none⟩) k 1 c _ limit l _ [l.getD k 0, l.getD k 0] w (by omega) (by simp) ?_ (takes_qDUP _ _ _ w) HR (fun W hW hrr => ?_)
      · have : l.take k ++ [l.getD k 0, l.getD k 0] = (l.take k ++ [l.getD k 0]) ++ [l.getD k 0] := by simp
        rw [this, htk]
      · rw [rest_some (by omega)] at hrr ⊢
        obtain ⟨hg, hcc⟩ := hrr.at_ (by omega)
        have h0 := hcc 0 (by omega)
        rw [drop_getD, Nat.add_zero, Nat.add_zero] at h0
        refine (left_qDUP_other g (o + k) (c - k) _ _ W hg (by simpa using hz) h0).mono ?_
        rintro e w' ⟨B, d', rfl, hr, hb⟩
        exact ⟨B, _, d', rfl, hr, hb⟩

theorem rword_DEPTH (A : Option Addr) (n c : Nat) (limit : Int) (l : List Int) (w : World) (hn : n ≤ 50000) (HR : Row w A n c l) :
    Calls Try.prog 16 #[.string ⟨#[68, 69, 80, 84, 72]⟩, .slice A n c, .int .i64 limit] w (Shuf (resF .depth l) l limit w) := by
  have hl := HR.1
  have e : resF .depth l = .out (l ++ [(n : Int)]) := by simp only [resF, hl]
  rw [e]
  refine rout A n 0 c _ limit l _ [(n : Int)] w (by omega) (by simp) (by rw [← hl, List.take_length]) (takes_DEPTH A n c w) HR (fun W hW hrr => ?_)
  refine (left_DEPTH _ 0 _ _ W).mono ?_
  rintro e w' ⟨B, d', rfl, hr, hb⟩
  exact ⟨B, _, d', rfl, by simpa using hr, hb⟩

theorem rword_PICK (A : Option Addr) (n c : Nat) (limit : Int) (l : List Int) (w : World) (hn : n ≤ 50000) (HR : Row w A n c l) :
    Calls Try.prog 16 #[.string ⟨#[80, 73, 67, 75]⟩, .slice A n c, .int .i64 limit] w (Shuf (resF .pick l) l limit w) := by
  have hl := HR.1
  have hc := HR.2.1
  have hm := HR.2.2.1
  unfold maxLen at hm
  rcases num_cases l with ⟨rfl, hz⟩ | ⟨k, hk, hy, hz⟩ | ⟨p, y, hk, hy, hz, hp⟩
  · obtain rfl : n = 0 := hl.symm
    rw [pick_no hz]
    exact under_fin HR (rshuffle_under A 0 c 1 _ limit w (by omega) (Lib.hid (takes_PICK_none A c w)))
  · obtain rfl : n = k + 1 := by omega
    rw [pick_no hz]
    obtain ⟨g, o, rfl, _, hcc⟩ := HR.cells (by omega)
    refine under_fin HR (rshuffle_under _ (k + 1) c ((k : Int) + 1 + 1) _ limit w (by omega) (Lib.hid ?_))
    rcases hy with hy | hy
    · exact takes_PICK_low g o k c _ w (by omega) hy (hcc k (by omega))
    · exact takes_PICK_high g o k c _ w (by omega) hy (hcc k (by omega))
  · obtain rfl : n = p + (y + 2) := by omega
    rw [pick_yes hk hz hp]
    obtain ⟨g, o, rfl, _, hcc⟩ := HR.cells (by omega)
    have ht := takes_PICK_ok g o (p + 1 + y) c y w (by omega) (by omega) (by have := hcc (p + 1 + y) (by omega); rwa [hy] at this)
    refine rout (some ⟨g, o, none⟩) p (y + 2) c _ limit l _ ((l.drop p).take (y + 1) ++ [l.getD p 0]) w (by omega) (by simp; omega) ?_ ?_ HR (fun W hW hrr => ?_)
    · rw [← List.append_assoc, ← List.take_add, show p + (y + 1) = p + 1 + y by omega]
    · rw [show p + (y + 2) = p + 1 + y + 1 by omega]
      exact ht
    · rw [rest_some (by omega)] at hrr ⊢
      obtain ⟨hg, hc2⟩ := hrr.at_ (by omega)
      have h0 := hc2 0 (by omega)
      rw [drop_getD, Nat.add_zero, Nat.add_zero] at h0
      exact left_PICK g (o + p) (y + 1) (c - p) _ _ _ W hg (by omega) (by omega) (by omega) (by omega) h0 (Lib.hid (hrr.high (by omega)))

theorem rword_ROLL (A : Option Addr) (n c : Nat) (limit : Int) (l : List Int) (w : World) (hn : n ≤ 50000) (HR : Row w A n c l) :
    Calls Try.prog 16 #[.string ⟨#[82, 79, 76, 76]⟩, .slice A n c, .int .i64 limit] w (Shuf (resF .roll l) l limit w) := by
  have hl := HR.1
  have hc := HR.2.1
  have hm := HR.2.2.1
  unfold maxLen at hm
  rcases num_cases l with ⟨rfl, hz⟩ | ⟨k, hk, hy, hz⟩ | ⟨p, y, hk, hy, hz, hp⟩
  · obtain rfl : n = 0 := hl.symm
    rw [roll_no hz]
    exact under_fin HR (rshuffle_under A 0 c 1 _ limit w (by omega) (Lib.hid (takes_ROLL_none A c w)))
  · obtain rfl : n = k + 1 := by omega
    rw [roll_no hz]
    obtain ⟨g, o, rfl, _, hcc⟩ := HR.cells (by omega)
    refine under_fin HR (rshuffle_under _ (k + 1) c ((k : Int) + 1 + 1) _ limit w (by omega) (Lib.hid ?_))
    rcases hy with hy | hy
    · exact takes_ROLL_low g o k c _ w (by omega) hy (hcc k (by omega))
    · exact takes_ROLL_high g o k c _ w (by omega) hy (hcc k (by omega))
  · obtain rfl : n = p + (y + 2) := by omega
    rw [roll_yes hk hz hp]
    obtain ⟨g, o, rfl, _, hcc⟩ := HR.cells (by omega)
    have ht := takes_ROLL_ok g o (p + 1 + y) c y w (by omega) (by omega) (by have := hcc (p + 1 + y) (by omega); rwa [hy] at this)
    refine rout (some ⟨g, o, none⟩) p (y + 2) c _ limit l _ ((l.drop (p + 1)).take y ++ [l.getD p 0]) w (by omega) (by simp; omega) ?_ ?_ HR (fun W hW hrr => ?_)
    · rw [List.drop_take, show p + 1 + y - (p + 1) = y by omega, List.append_assoc]
    · rw [show p + (y + 2) = p + 1 + y + 1 by omega]
      exact ht
    · rw [rest_some (by omega)] at hrr ⊢
      obtain ⟨hg, hc2⟩ := hrr.at_ (by omega)
      have h0 := hc2 0 (by omega)
      rw [drop_getD, Nat.add_zero, Nat.add_zero] at h0
      have h1 := (hrr.rest (k := 1) (by omega)).high (k := y) (by omega)
      rw [rest_some (by omega), List.drop_drop] at h1
      exact left_ROLL g (o + p) y (c - p) _ _ _ W hg (by omega) (by omega) (by omega) (by omega) h0 (Lib.hid h1)

/-- The document's Shuffle answers as the plain function says. -/
theorem rshuffle_at (A : Option Addr) (n c : Nat) (s : ByteArray) (l : List Int) (limit : Int) (w : World) (hn : n ≤ 50000) (HR : Row w A n c l) :
    Calls Try.prog 16 #[.string s, .slice A n c, .int .i64 limit] w (Shuf (resF (kindF s.data.toList) l) l limit w) := by
  refine name_cases s (P := fun s => Calls Try.prog 16 #[.string s, .slice A n c, .int .i64 limit] w (Shuf (resF (kindF s.data.toList) l) l limit w)) ?_ ?_ ?_ ?_ ?_ ?_ ?_ ?_ ?_ ?_ ?_ ?_ ?_ ?_ ?_ ?_ ?_
  · rw [kind_DUP]
    exact rword_DUP A n c limit l w hn HR
  · rw [kind_DROP]
    exact rword_DROP A n c limit l w hn HR
  · rw [kind_SWAP]
    exact rword_SWAP A n c limit l w hn HR
  · rw [kind_OVER]
    exact rword_OVER A n c limit l w hn HR
  · rw [kind_NIP]
    exact rword_NIP A n c limit l w hn HR
  · rw [kind_TUCK]
    exact rword_TUCK A n c limit l w hn HR
  · rw [kind_ROT]
    exact rword_ROT A n c limit l w hn HR
  · rw [kind_mROT]
    exact rword_mROT A n c limit l w hn HR
  · rw [kind_2DUP]
    exact rword_2DUP A n c limit l w hn HR
  · rw [kind_2DROP]
    exact rword_2DROP A n c limit l w hn HR
  · rw [kind_2SWAP]
    exact rword_2SWAP A n c limit l w hn HR
  · rw [kind_2OVER]
    exact rword_2OVER A n c limit l w hn HR
  · rw [kind_qDUP]
    exact rword_qDUP A n c limit l w hn HR
  · rw [kind_DEPTH]
    exact rword_DEPTH A n c limit l w hn HR
  · rw [kind_PICK]
    exact rword_PICK A n c limit l w hn HR
  · rw [kind_ROLL]
    exact rword_ROLL A n c limit l w hn HR
  · intro e0 e1 e2 e3 e4 e5 e6 e7 e8 e9 e10 e11 e12 e13 e14 e15
    rw [kind_other _ e0 e1 e2 e3 e4 e5 e6 e7 e8 e9 e10 e11 e12 e13 e14 e15]
    exact no_fin HR (rshuffle_no A n c s limit w (Lib.hid (takes_no A n c s w e0 e1 e2 e3 e4 e5 e6 e7 e8 e9 e10 e11 e12 e13 e14 e15)))
end Go.Proofs.Ytjeapcpicagobaa
