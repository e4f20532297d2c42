/- A contract of Shuffle of package stk. -/
import Derived.Test.YtjeapcpicagobaaStkG
namespace Go.Proofs.Ytjeapcpicagobaa
open Go.RowKit
set_option linter.unusedVariables false
set_option linter.unusedSimpArgs false

theorem tells_of (t a b : ByteArray) (k i : Nat) (idx : List Nat) (h1 : Cuts t a b i) (h2 : a.size = k) (h3 : b.data.toList.map (·.toNat) = idx.map (· + 97)) (h4 : idx.length ≤ 10) (h5 : ∀ i ∈ idx, i < k) (h6 : k ≤ 4) : Tells t a b k idx := by
  have hl : b.size = idx.length := by
    have := congrArg List.length h3
    simpa using this
  refine ⟨⟨i, h1⟩, h2, hl, h4, fun j h x hx => ?_, fun j x hx => h5 x (List.mem_of_getElem? hx), h6⟩
  have e1 : (b.data.toList.map (·.toNat))[j]? = some (b[j].toNat) := by
    rw [List.getElem?_map]
    have : b.data.toList[j]? = some b[j] := by
      rw [Array.getElem?_toList]
      exact Array.getElem?_eq_getElem h
    rw [this]
    rfl
  rw [h3, List.getElem?_map, hx] at e1
  simpa using e1.symm

/-- What turned answers of a result, and with which list. -/
def codeT : Res → Int
  | .no => 0
  | .under => -4
  | .out _ => 0
def outT : Res → List Int
  | .no => []
  | .under => []
  | .out o => o

theorem told_got (A : Option Addr) (n c k : Nat) (l : List Int) (idx : List Nat) (t a b : ByteArray) (w : World) (hn : n ≤ 65536) (hk0 : 0 < k) (HT : Tells t a b k idx) (HR : Hid (Row w A n c l)) :
    ∀ w1, Below w.heap.size w w1 → Calls Try.prog 24 #[.string t, .slice A n c] w1 (Got (codeT (resF (.perm k idx) l)) (outT (resF (.perm k idx) l)) w1) := by
  intro w1 hb
  have hl := HR.out.1
  by_cases h : n < k
  · have e : resF (.perm k idx) l = .under := by simp only [resF]; rw [if_pos (by omega)]
    rw [e]
    refine (told_under A n c k idx t a b w1 hn h (Lib.hid HT)).mono ?_
    rintro e w' ⟨rfl, b2⟩
    exact ⟨_, _, _, rfl, Lib.hid (fun h => by simp [codeT] at h), b2⟩
  · obtain ⟨low, rfl⟩ : ∃ low, n = low + k := ⟨n - k, by omega⟩
    have e : resF (.perm k idx) l = .out (leftL l low idx) := by
      simp only [resF]
      rw [if_neg (by omega), hl, Nat.add_sub_cancel]
    rw [e]
    refine (told_ok A low c k l idx t a b w1 hn hk0 (Lib.hid HT) (Lib.hid (HR.out.keep hb))).mono ?_
    rintro e w' ⟨B, d, rfl, hr, b2⟩
    exact ⟨_, _, _, rfl, Lib.hid (fun _ => hr), b2⟩

theorem doubled_got (A : Option Addr) (n c : Nat) (l : List Int) (w : World) (hn : n ≤ 65536) (HR : Hid (Row w A n c l)) :
    ∀ w1, Below w.heap.size w w1 → Calls Try.prog 25 #[.slice A n c] w1 (Got (codeT (resF .qdup l)) (outT (resF .qdup l)) w1) := by
  intro w1 hb
  have hl := HR.out.1
  have HR1 := Lib.hid (HR.out.keep hb)
  cases n with
  | zero =>
    obtain rfl := List.eq_nil_of_length_eq_zero hl
    refine (doubled_none A c w1 HR1).mono ?_
    rintro e w' ⟨B, m, d, rfl, hr, b2⟩
    exact ⟨_, _, _, rfl, Lib.hid (fun h => by simp [codeT, resF] at h), b2⟩
  | succ k =>
    have ht : topF l = l.getD k 0 := by simp only [topF, hl]; rfl
    by_cases hz : l.getD k 0 = 0
    · have e : resF .qdup l = .out l := by simp only [resF, ht, hz]; rw [if_neg (by omega)]; rfl
      rw [e]
      refine (doubled_zero A k c l w1 hn HR1 hz).mono ?_
      rintro e w' ⟨B, m, d, rfl, hr, b2⟩
      exact ⟨_, _, _, rfl, Lib.hid (fun _ => hr), b2⟩
    · have e : resF .qdup l = .out (l ++ [l.getD k 0]) := by simp only [resF, ht]; rw [if_neg (by omega), if_neg hz]
      rw [e]
      refine (doubled_other A k c l _ w1 hn (by simpa using hz) HR1 (Lib.hid rfl)).mono ?_
      rintro e w' ⟨B, m, d, rfl, hr, b2⟩
      exact ⟨_, _, _, rfl, Lib.hid (fun _ => hr), b2⟩

theorem pick_yes {l : List Int} {p y : Nat} (h1 : l.length = p + 1 + y + 1) (h2 : numOk l = true) (h3 : placeF l = p) : resF .pick l = .out (l.take (p + 1 + y) ++ [l.getD p 0]) := by
  simp only [resF, h2, if_true, h3, h1]
  rfl
theorem roll_yes {l : List Int} {p y : Nat} (h1 : l.length = p + 1 + y + 1) (h2 : numOk l = true) (h3 : placeF l = p) : resF .roll l = .out ((l.take p ++ (l.take (p + 1 + y)).drop (p + 1)) ++ [l.getD p 0]) := by
  simp only [resF, h2, if_true, h3, h1]
  rfl
theorem pick_no {l : List Int} (h : numOk l = false) : resF .pick l = .under := by simp [resF, h]
theorem roll_no {l : List Int} (h : numOk l = false) : resF .roll l = .under := by simp [resF, h]

theorem picked_got (A : Option Addr) (n c : Nat) (l : List Int) (w : World) (hn : n ≤ 65536) (HR : Hid (Row w A n c l)) :
    ∀ w1, Below w.heap.size w w1 → Calls Try.prog 26 #[.slice A n c] w1 (Got (codeT (resF .pick l)) (outT (resF .pick l)) w1) := by
  intro w1 hb
  have hl := HR.out.1
  have HR1 := Lib.hid (HR.out.keep hb)
  rcases num_cases l with ⟨rfl, hz⟩ | ⟨k, hk, hy, hz⟩ | ⟨p, y, hk, hy, hz, hp⟩
  · obtain rfl : n = 0 := hl.symm
    rw [pick_no hz]
    refine (picked_none A c w1 HR1).mono ?_
    rintro e w' ⟨rfl, b2⟩
    exact ⟨_, _, _, rfl, Lib.hid (fun h => by simp [codeT] at h), b2⟩
  · obtain rfl : n = k + 1 := by omega
    rw [pick_no hz]
    refine (picked_out A k c l _ w1 hn hy HR1 (Lib.hid rfl)).mono ?_
    rintro e w' ⟨rfl, b2⟩
    exact ⟨_, _, _, rfl, Lib.hid (fun h => by simp [codeT] at h), b2⟩
  · obtain rfl : n = p + 1 + y + 1 := by omega
    rw [pick_yes hk hz hp]
    refine (picked_ok A p y c l w1 (by omega) HR1 (Lib.hid hy)).mono ?_
    rintro e w' ⟨B, m, d, rfl, hr, b2⟩
    exact ⟨_, _, _, rfl, Lib.hid (fun _ => hr), b2⟩

theorem rolled_got (A : Option Addr) (n c : Nat) (l : List Int) (w : World) (hn : n ≤ 65536) (HR : Hid (Row w A n c l)) :
    ∀ w1, Below w.heap.size w w1 → Calls Try.prog 27 #[.slice A n c] w1 (Got (codeT (resF .roll l)) (outT (resF .roll l)) w1) := by
  intro w1 hb
  have hl := HR.out.1
  have HR1 := Lib.hid (HR.out.keep hb)
  rcases num_cases l with ⟨rfl, hz⟩ | ⟨k, hk, hy, hz⟩ | ⟨p, y, hk, hy, hz, hp⟩
  · obtain rfl : n = 0 := hl.symm
    rw [roll_no hz]
    refine (rolled_none A c w1 HR1).mono ?_
    rintro e w' ⟨rfl, b2⟩
    exact ⟨_, _, _, rfl, Lib.hid (fun h => by simp [codeT] at h), b2⟩
  · obtain rfl : n = k + 1 := by omega
    rw [roll_no hz]
    refine (rolled_out A k c l _ w1 hn hy HR1 (Lib.hid rfl)).mono ?_
    rintro e w' ⟨rfl, b2⟩
    exact ⟨_, _, _, rfl, Lib.hid (fun h => by simp [codeT] at h), b2⟩
  · obtain rfl : n = p + 1 + y + 1 := by omega
    rw [roll_yes hk hz hp]
    refine (rolled_ok A p y c l w1 (by omega) HR1 (Lib.hid hy)).mono ?_
    rintro e w' ⟨B, m, d, rfl, hr, b2⟩
    exact ⟨_, _, _, rfl, Lib.hid (fun _ => hr), b2⟩
theorem tells_DUP : Tells ⟨#[97, 32, 97, 97]⟩ ⟨#[97]⟩ ⟨#[97, 97]⟩ 1 [0, 0] := tells_of _ _ _ 1 1 [0, 0] ⟨by kernel_rfl, by kernel_rfl, by kernel_rfl, by decide, by decide, by kernel_rfl⟩ rfl rfl (by decide) (by decide) (by decide)
theorem tells_DROP : Tells ⟨#[97, 32]⟩ ⟨#[97]⟩ ⟨#[]⟩ 1 [] := tells_of _ _ _ 1 1 [] ⟨by kernel_rfl, by kernel_rfl, by kernel_rfl, by decide, by decide, by kernel_rfl⟩ rfl rfl (by decide) (by decide) (by decide)
theorem tells_SWAP : Tells ⟨#[97, 98, 32, 98, 97]⟩ ⟨#[97, 98]⟩ ⟨#[98, 97]⟩ 2 [1, 0] := tells_of _ _ _ 2 2 [1, 0] ⟨by kernel_rfl, by kernel_rfl, by kernel_rfl, by decide, by decide, by kernel_rfl⟩ rfl rfl (by decide) (by decide) (by decide)
theorem tells_OVER : Tells ⟨#[97, 98, 32, 97, 98, 97]⟩ ⟨#[97, 98]⟩ ⟨#[97, 98, 97]⟩ 2 [0, 1, 0] := tells_of _ _ _ 2 2 [0, 1, 0] ⟨by kernel_rfl, by kernel_rfl, by kernel_rfl, by decide, by decide, by kernel_rfl⟩ rfl rfl (by decide) (by decide) (by decide)
theorem tells_NIP : Tells ⟨#[97, 98, 32, 98]⟩ ⟨#[97, 98]⟩ ⟨#[98]⟩ 2 [1] := tells_of _ _ _ 2 2 [1] ⟨by kernel_rfl, by kernel_rfl, by kernel_rfl, by decide, by decide, by kernel_rfl⟩ rfl rfl (by decide) (by decide) (by decide)
theorem tells_TUCK : Tells ⟨#[97, 98, 32, 98, 97, 98]⟩ ⟨#[97, 98]⟩ ⟨#[98, 97, 98]⟩ 2 [1, 0, 1] := tells_of _ _ _ 2 2 [1, 0, 1] ⟨by kernel_rfl, by kernel_rfl, by kernel_rfl, by decide, by decide, by kernel_rfl⟩ rfl rfl (by decide) (by decide) (by decide)
theorem tells_ROT : Tells ⟨#[97, 98, 99, 32, 98, 99, 97]⟩ ⟨#[97, 98, 99]⟩ ⟨#[98, 99, 97]⟩ 3 [1, 2, 0] := tells_of _ _ _ 3 3 [1, 2, 0] ⟨by kernel_rfl, by kernel_rfl, by kernel_rfl, by decide, by decide, by kernel_rfl⟩ rfl rfl (by decide) (by decide) (by decide)
theorem tells_mROT : Tells ⟨#[97, 98, 99, 32, 99, 97, 98]⟩ ⟨#[97, 98, 99]⟩ ⟨#[99, 97, 98]⟩ 3 [2, 0, 1] := tells_of _ _ _ 3 3 [2, 0, 1] ⟨by kernel_rfl, by kernel_rfl, by kernel_rfl, by decide, by decide, by kernel_rfl⟩ rfl rfl (by decide) (by decide) (by decide)
theorem tells_2DUP : Tells ⟨#[97, 98, 32, 97, 98, 97, 98]⟩ ⟨#[97, 98]⟩ ⟨#[97, 98, 97, 98]⟩ 2 [0, 1, 0, 1] := tells_of _ _ _ 2 2 [0, 1, 0, 1] ⟨by kernel_rfl, by kernel_rfl, by kernel_rfl, by decide, by decide, by kernel_rfl⟩ rfl rfl (by decide) (by decide) (by decide)
theorem tells_2DROP : Tells ⟨#[97, 98, 32]⟩ ⟨#[97, 98]⟩ ⟨#[]⟩ 2 [] := tells_of _ _ _ 2 2 [] ⟨by kernel_rfl, by kernel_rfl, by kernel_rfl, by decide, by decide, by kernel_rfl⟩ rfl rfl (by decide) (by decide) (by decide)
theorem tells_2SWAP : Tells ⟨#[97, 98, 99, 100, 32, 99, 100, 97, 98]⟩ ⟨#[97, 98, 99, 100]⟩ ⟨#[99, 100, 97, 98]⟩ 4 [2, 3, 0, 1] := tells_of _ _ _ 4 4 [2, 3, 0, 1] ⟨by kernel_rfl, by kernel_rfl, by kernel_rfl, by decide, by decide, by kernel_rfl⟩ rfl rfl (by decide) (by decide) (by decide)
theorem tells_2OVER : Tells ⟨#[97, 98, 99, 100, 32, 97, 98, 99, 100, 97, 98]⟩ ⟨#[97, 98, 99, 100]⟩ ⟨#[97, 98, 99, 100, 97, 98]⟩ 4 [0, 1, 2, 3, 0, 1] := tells_of _ _ _ 4 4 [0, 1, 2, 3, 0, 1] ⟨by kernel_rfl, by kernel_rfl, by kernel_rfl, by decide, by decide, by kernel_rfl⟩ rfl rfl (by decide) (by decide) (by decide)

theorem turned_at (A : Option Addr) (n c : Nat) (s : ByteArray) (l : List Int) (w : World) (hn : n ≤ 65536) (HR : Hid (Row w A n c l)) :
    Calls Try.prog 20 #[.string s, .slice A n c] w (Ans (knownR (resF (kindF s.data.toList) l)) (codeT (resF (kindF s.data.toList) l)) (outT (resF (kindF s.data.toList) l)) w) := by
  refine name_cases s (P := fun s => Calls Try.prog 20 #[.string s, .slice A n c] w (Ans (knownR (resF (kindF s.data.toList) l)) (codeT (resF (kindF s.data.toList) l)) (outT (resF (kindF s.data.toList) l)) w)) ?_ ?_ ?_ ?_ ?_ ?_ ?_ ?_ ?_ ?_ ?_ ?_ ?_ ?_ ?_ ?_ ?_
  · rw [kind_DUP, show knownR (resF (.perm 1 [0, 0]) l) = true by simp only [resF]; split <;> rfl]
    exact turned_text A n c 0 _ ⟨#[97, 32, 97, 97]⟩ _ _ w (by kernel_rfl) (Lib.hid (told_got A n c 1 l [0, 0] _ _ _ w hn (by decide) tells_DUP HR))
  · rw [kind_DROP, show knownR (resF (.perm 1 []) l) = true by simp only [resF]; split <;> rfl]
    exact turned_text A n c 1 _ ⟨#[97, 32]⟩ _ _ w (by kernel_rfl) (Lib.hid (told_got A n c 1 l [] _ _ _ w hn (by decide) tells_DROP HR))
  · rw [kind_SWAP, show knownR (resF (.perm 2 [1, 0]) l) = true by simp only [resF]; split <;> rfl]
    exact turned_text A n c 2 _ ⟨#[97, 98, 32, 98, 97]⟩ _ _ w (by kernel_rfl) (Lib.hid (told_got A n c 2 l [1, 0] _ _ _ w hn (by decide) tells_SWAP HR))
  · rw [kind_OVER, show knownR (resF (.perm 2 [0, 1, 0]) l) = true by simp only [resF]; split <;> rfl]
    exact turned_text A n c 3 _ ⟨#[97, 98, 32, 97, 98, 97]⟩ _ _ w (by kernel_rfl) (Lib.hid (told_got A n c 2 l [0, 1, 0] _ _ _ w hn (by decide) tells_OVER HR))
  · rw [kind_NIP, show knownR (resF (.perm 2 [1]) l) = true by simp only [resF]; split <;> rfl]
    exact turned_text A n c 4 _ ⟨#[97, 98, 32, 98]⟩ _ _ w (by kernel_rfl) (Lib.hid (told_got A n c 2 l [1] _ _ _ w hn (by decide) tells_NIP HR))
  · rw [kind_TUCK, show knownR (resF (.perm 2 [1, 0, 1]) l) = true by simp only [resF]; split <;> rfl]
    exact turned_text A n c 5 _ ⟨#[97, 98, 32, 98, 97, 98]⟩ _ _ w (by kernel_rfl) (Lib.hid (told_got A n c 2 l [1, 0, 1] _ _ _ w hn (by decide) tells_TUCK HR))
  · rw [kind_ROT, show knownR (resF (.perm 3 [1, 2, 0]) l) = true by simp only [resF]; split <;> rfl]
    exact turned_text A n c 6 _ ⟨#[97, 98, 99, 32, 98, 99, 97]⟩ _ _ w (by kernel_rfl) (Lib.hid (told_got A n c 3 l [1, 2, 0] _ _ _ w hn (by decide) tells_ROT HR))
  · rw [kind_mROT, show knownR (resF (.perm 3 [2, 0, 1]) l) = true by simp only [resF]; split <;> rfl]
    exact turned_text A n c 7 _ ⟨#[97, 98, 99, 32, 99, 97, 98]⟩ _ _ w (by kernel_rfl) (Lib.hid (told_got A n c 3 l [2, 0, 1] _ _ _ w hn (by decide) tells_mROT HR))
  · rw [kind_2DUP, show knownR (resF (.perm 2 [0, 1, 0, 1]) l) = true by simp only [resF]; split <;> rfl]
    exact turned_text A n c 8 _ ⟨#[97, 98, 32, 97, 98, 97, 98]⟩ _ _ w (by kernel_rfl) (Lib.hid (told_got A n c 2 l [0, 1, 0, 1] _ _ _ w hn (by decide) tells_2DUP HR))
  · rw [kind_2DROP, show knownR (resF (.perm 2 []) l) = true by simp only [resF]; split <;> rfl]
    exact turned_text A n c 9 _ ⟨#[97, 98, 32]⟩ _ _ w (by kernel_rfl) (Lib.hid (told_got A n c 2 l [] _ _ _ w hn (by decide) tells_2DROP HR))
  · rw [kind_2SWAP, show knownR (resF (.perm 4 [2, 3, 0, 1]) l) = true by simp only [resF]; split <;> rfl]
    exact turned_text A n c 10 _ ⟨#[97, 98, 99, 100, 32, 99, 100, 97, 98]⟩ _ _ w (by kernel_rfl) (Lib.hid (told_got A n c 4 l [2, 3, 0, 1] _ _ _ w hn (by decide) tells_2SWAP HR))
  · rw [kind_2OVER, show knownR (resF (.perm 4 [0, 1, 2, 3, 0, 1]) l) = true by simp only [resF]; split <;> rfl]
    exact turned_text A n c 11 _ ⟨#[97, 98, 99, 100, 32, 97, 98, 99, 100, 97, 98]⟩ _ _ w (by kernel_rfl) (Lib.hid (told_got A n c 4 l [0, 1, 2, 3, 0, 1] _ _ _ w hn (by decide) tells_2OVER HR))
  · rw [kind_qDUP, show knownR (resF .qdup l) = true by simp only [resF]; split <;> rfl]
    exact turned_qDUP A n c _ _ w (Lib.hid (doubled_got A n c l w hn HR))
  · rw [kind_DEPTH]
    have e : resF .depth l = .out (l ++ [(n : Int)]) := by simp only [resF]; rw [HR.out.1]
    rw [e]
    exact turned_DEPTH A n c l w hn HR
  · rw [kind_PICK, show knownR (resF .pick l) = true by simp only [resF]; split <;> rfl]
    exact turned_PICK A n c _ _ w (Lib.hid (picked_got A n c l w hn HR))
  · rw [kind_ROLL, show knownR (resF .roll l) = true by simp only [resF]; split <;> rfl]
    exact turned_ROLL A n c _ _ w (Lib.hid (rolled_got A n c l w hn HR))
  · intro e0 e1 e2 e3 e4 e5 e6 e7 e8 e9 e10 e11 e12 e13 e14 e15
    rw [kind_other _ e0 e1 e2 e3 e4 e5 e6 e7 e8 e9 e10 e11 e12 e13 e14 e15]
    exact turned_no A n c s _ w e0 e1 e2 e3 e4 e5 e6 e7 e8 e9 e10 e11 e12 e13 e14 e15

set_option maxRecDepth 100000 in
set_option maxHeartbeats 4000000 in
theorem shuffle_no (A : Option Addr) (n c : Nat) (s : ByteArray) (l o : List Int) (limit : Int) (w : World) (hn : n ≤ 65536) (HR : Hid (Row w A n c l)) (HT : Hid (Calls Try.prog 20 #[.string s, .slice A n c] w (Ans false 0 o w))) :
    Calls Try.prog 15 #[.string s, .slice A n c, .int .i64 limit] w fun e w' => ∃ B m d, e = .returned (.tuple #[.slice B m d, .bool false, .int .i64 0]) ∧ Row w' B m d l ∧ Below w.heap.size w w' := by
  go_enter Try.func15, Try.ntmps15
  go_wp2_with fail
  refine HT.out.mono ?_
  rintro e w1 ⟨B, m, d, rfl, _, b1⟩
  have B1 := Lib.hid b1
  clear b1
  go_wp2_with fail
  refine (own_any _ _ _ l _ hn (Lib.hid (HR.out.keep B1.out))).mono ?_
  rintro e w2 ⟨g, rfl, ho, b2⟩
  have HO := Lib.hid ho.row
  clear ho
  go_wp2_with fail
  go_ret3
  obtain ⟨B, d, e, hr⟩ := HO.out
  injection e with e1 e2 e3
  subst e1 e3
  exact ⟨_, _, _, rfl, hr, below_then B1.out b2⟩

set_option maxRecDepth 100000 in
set_option maxHeartbeats 4000000 in
theorem shuffle_under (A : Option Addr) (n c : Nat) (s : ByteArray) (l o : List Int) (limit : Int) (w : World) (hn : n ≤ 65536) (HR : Hid (Row w A n c l)) (HT : Hid (Calls Try.prog 20 #[.string s, .slice A n c] w (Ans true (-4) o w))) :
    Calls Try.prog 15 #[.string s, .slice A n c, .int .i64 limit] w fun e w' => ∃ B m d, e = .returned (.tuple #[.slice B m d, .bool true, .int .i64 (-4)]) ∧ Row w' B m d l ∧ Below w.heap.size w w' := by
  go_enter Try.func15, Try.ntmps15
  go_wp2_with fail
  refine HT.out.mono ?_
  rintro e w1 ⟨B, m, d, rfl, _, b1⟩
  have B1 := Lib.hid b1
  clear b1
  go_wp2_with fail
  refine (own_any _ _ _ l _ hn (Lib.hid (HR.out.keep B1.out))).mono ?_
  rintro e w2 ⟨g, rfl, ho, b2⟩
  have HO := Lib.hid ho.row
  clear ho
  go_wp2_with fail
  go_ret3
  obtain ⟨B, d, e, hr⟩ := HO.out
  injection e with e1 e2 e3
  subst e1 e3
  exact ⟨_, _, _, rfl, hr, below_then B1.out b2⟩

set_option maxRecDepth 100000 in
set_option maxHeartbeats 4000000 in
theorem shuffle_over (A : Option Addr) (n c : Nat) (s : ByteArray) (l o : List Int) (limit : Int) (w : World) (hn : n ≤ 65536) (HR : Hid (Row w A n c l)) (hlim : limit < (o.length : Int)) (HT : Hid (Calls Try.prog 20 #[.string s, .slice A n c] w (Ans true 0 o w))) :
    Calls Try.prog 15 #[.string s, .slice A n c, .int .i64 limit] w fun e w' => ∃ B m d, e = .returned (.tuple #[.slice B m d, .bool true, .int .i64 (-3)]) ∧ Row w' B m d l ∧ Below w.heap.size w w' := by
  go_enter Try.func15, Try.ntmps15
  go_wp2_with fail
  refine HT.out.mono ?_
  rintro e w1 ⟨B, m, d, rfl, hr, b1⟩
  have hm : limit < (m : Int) := by have := (hr rfl rfl).1; omega
  have B1 := Lib.hid b1
  clear b1 hr hlim
  go_wp2_with fail
  refine (own_any _ _ _ l _ hn (Lib.hid (HR.out.keep B1.out))).mono ?_
  rintro e w2 ⟨g, rfl, ho, b2⟩
  have HO := Lib.hid ho.row
  clear ho
  go_wp2_with fail
  go_ret3
  obtain ⟨B, d, e, hr⟩ := HO.out
  injection e with e1 e2 e3
  subst e1 e3
  exact ⟨_, _, _, rfl, hr, below_then B1.out b2⟩

set_option maxRecDepth 100000 in
set_option maxHeartbeats 4000000 in
theorem shuffle_ok (A : Option Addr) (n c : Nat) (s : ByteArray) (l o : List Int) (limit : Int) (w : World) (hlim : ¬ limit < (o.length : Int)) (HT : Hid (Calls Try.prog 20 #[.string s, .slice A n c] w (Ans true 0 o w))) :
    Calls Try.prog 15 #[.string s, .slice A n c, .int .i64 limit] w fun e w' => ∃ B m d, e = .returned (.tuple #[.slice B m d, .bool true, .int .i64 0]) ∧ Row w' B m d o ∧ Below w.heap.size w w' := by
  go_enter Try.func15, Try.ntmps15
  go_wp2_with fail
  refine HT.out.mono ?_
  rintro e w1 ⟨B, m, d, rfl, hr, b1⟩
  have hm : decide (limit < (m : Int)) = false := by have := (hr rfl rfl).1; simp; omega
  have B1 := Lib.hid b1
  have HO := Lib.hid (hr rfl rfl)
  clear b1 hr hlim
  go_wp2_with fail
  go_ret3
  exact ⟨_, _, _, rfl, HO.out, B1.out⟩

/-- Shuffle answers as the plain function says. -/
theorem shuffle_at (A : Option Addr) (n c : Nat) (s : ByteArray) (l : List Int) (limit : Int) (w : World) (hn : n ≤ 65536) (HR : Hid (Row w A n c l)) :
    Calls Try.prog 15 #[.string s, .slice A n c, .int .i64 limit] w fun e w' => ∃ B m d, e = .returned (.tuple #[.slice B m d, .bool (knownR (resF (kindF s.data.toList) l)), .int .i64 (codeR (resF (kindF s.data.toList) l) limit)]) ∧ Row w' B m d (listR (resF (kindF s.data.toList) l) l limit) ∧ Below w.heap.size w w' := by
  have ht := turned_at A n c s l w hn HR
  cases hr : resF (kindF s.data.toList) l with
  | no =>
    rw [hr] at ht
    exact shuffle_no A n c s l _ limit w hn HR (Lib.hid ht)
  | under =>
    rw [hr] at ht
    exact shuffle_under A n c s l _ limit w hn HR (Lib.hid ht)
  | out o =>
    rw [hr] at ht
    by_cases hlim : limit < (o.length : Int)
    · simp only [codeR, listR, if_pos hlim]
      exact shuffle_over A n c s l o limit w hn HR hlim (Lib.hid ht)
    · simp only [codeR, listR, if_neg hlim]
      exact shuffle_ok A n c s l o limit w hlim (Lib.hid ht)
end Go.Proofs.Ytjeapcpicagobaa
