/- What VmStacks leans on: machines stay right; what was pushed is popped. -/
import Derived.Test.YtbighilgkmfemaaGreatDoorSetL
namespace Go.Proofs.YtbighilgkmfemaaGreatDoor
open Go.RowKit
set_option linter.unusedVariables false
set_option linter.unusedSimpArgs false

theorem push_room {l : List Int} {c : Int} (h : (l.length : Int) < c) (x : Int) : pushL l x c = l ++ [x] ∧ pushC l c = 0 ∧ rpushC l c = 0 := by
  have h' : ¬ (c ≤ (l.length : Int)) := by omega
  unfold pushL pushC rpushC
  rw [if_neg h', if_neg h', if_neg h']
  exact ⟨rfl, rfl, rfl⟩
theorem push_full {l : List Int} {c : Int} (h : ¬ ((l.length : Int) < c)) (x : Int) : pushL l x c = l ∧ pushC l c = -3 ∧ rpushC l c = -5 := by
  have h' : c ≤ (l.length : Int) := by omega
  unfold pushL pushC rpushC
  rw [if_pos h', if_pos h', if_pos h']
  exact ⟨rfl, rfl, rfl⟩
theorem pop_app (l : List Int) (x : Int) : popX (l ++ [x]) = x ∧ popL (l ++ [x]) = l ∧ popC (l ++ [x]) = 0 ∧ rpopC (l ++ [x]) = 0 := by
  have e : (l ++ [x]).length - 1 = l.length := by simp
  have z : ¬ ((l ++ [x]).length = 0) := by simp
  unfold popX popL popC rpopC
  rw [e, if_neg z, if_neg z]
  exact ⟨by simp, by simp, rfl, rfl⟩
theorem print_room {l s : List UInt8} {c : Int} (h : (l.length : Int) + (s.length : Int) ≤ c) : printL l s c = l ++ s ∧ printC l s c = 0 := by
  have h' : ¬ (c - (l.length : Int) < (s.length : Int)) := by omega
  unfold printL printC
  rw [if_neg h', if_neg h']
  exact ⟨rfl, rfl⟩
theorem print_full {l s : List UInt8} {c : Int} (h : ¬ ((l.length : Int) + (s.length : Int) ≤ c)) : printL l s c = l ∧ printC l s c = -260 := by
  have h' : c - (l.length : Int) < (s.length : Int) := by omega
  unfold printL printC
  rw [if_pos h', if_pos h']
  exact ⟨rfl, rfl⟩
/-- A machine whose stacks and text still have room stays right. -/
theorem right_still {k j : VmK} {L M : VmL} (h : vRight k L = true) (s : Sc j k) (l : Lens k L) (l' : Lens j M) (hm : M.m = L.m) (hw : M.dict = L.dict) (hq : M.q = L.q) (hf : M.f = L.f) (hh : M.h = L.h) (he : M.e = L.e)
    (hd : (M.d.length : Int) ≤ k.cd) (hr : (M.r.length : Int) ≤ k.cr) (ho : (M.o.length : Int) ≤ k.co) : vRight j M = true := by
  unfold vRight at h ⊢
  simp only [Bool.and_eq_true] at h ⊢
  obtain ⟨h1, h2, h3, h4, h5, h6, h7, h8⟩ := h
  have e1 : j.mn = k.mn := by rw [← l.m, ← l'.m, hm]
  have e2 : j.wn = k.wn := by rw [← l.dict, ← l'.dict, hw]
  have e3 : j.fn = k.fn := by rw [← l.f, ← l'.f, hf]
  have e4 : j.hn = k.hn := by rw [← l.h, ← l'.h, hh]
  have e5 : j.en = k.en := by rw [← l.e, ← l'.e, he]
  unfold tailB at h8
  rw [decide_eq_true_eq] at h8
  refine ⟨by unfold fitsV at h1 ⊢; rw [s.cm, s.cd, s.cr, s.cw, s.co]; exact h1, by rw [hm]; exact h2, by rw [hw]; exact h3, by rw [hq, s.qo]; exact h4, by unfold headB at h5 ⊢; rw [e1, s.cm, s.here]; exact h5, by rw [hf]; exact h6, by rw [hh]; exact h7, ?_⟩
  unfold tailB
  rw [decide_eq_true_eq, e2, e3, e4, e5, s.cd, s.cr, s.cw, s.co, s.free, s.next, ← l'.d, ← l'.r, ← l'.o]
  omega
theorem tail_of {k : VmK} {L : VmL} (h : vRight k L = true) (l : Lens k L) : (L.d.length : Int) ≤ k.cd ∧ (L.r.length : Int) ≤ k.cr ∧ (L.o.length : Int) ≤ k.co := by
  unfold vRight tailB at h
  simp only [Bool.and_eq_true, decide_eq_true_eq] at h
  have := l.d; have := l.r; have := l.o
  omega
theorem right_push {k j : VmK} {L : VmL} {n : Int} (h : vRight k L = true) (s : Sc j k) (l : Lens k L) (l' : Lens j (pushV k L n)) : vRight j (pushV k L n) = true := by
  obtain ⟨t1, t2, t3⟩ := tail_of h l
  refine right_still h s l l' rfl rfl rfl rfl rfl rfl ?_ t2 t3
  show ((pushL L.d n k.cd).length : Int) ≤ _
  by_cases hr : (L.d.length : Int) < k.cd
  · rw [(push_room hr n).1]; simp; omega
  · rw [(push_full hr n).1]; exact t1
theorem right_rpush {k j : VmK} {L : VmL} {n : Int} (h : vRight k L = true) (s : Sc j k) (l : Lens k L) (l' : Lens j (rpushV k L n)) : vRight j (rpushV k L n) = true := by
  obtain ⟨t1, t2, t3⟩ := tail_of h l
  refine right_still h s l l' rfl rfl rfl rfl rfl rfl t1 ?_ t3
  show ((pushL L.r n k.cr).length : Int) ≤ _
  by_cases hr : (L.r.length : Int) < k.cr
  · rw [(push_room hr n).1]; simp; omega
  · rw [(push_full hr n).1]; exact t2
theorem right_print {k j : VmK} {L : VmL} {s0 : List UInt8} (h : vRight k L = true) (s : Sc j k) (l : Lens k L) (l' : Lens j (printV k L s0)) : vRight j (printV k L s0) = true := by
  obtain ⟨t1, t2, t3⟩ := tail_of h l
  refine right_still h s l l' rfl rfl rfl rfl rfl rfl t1 t2 ?_
  show ((printL L.o s0 k.co).length : Int) ≤ _
  by_cases hr : (L.o.length : Int) + (s0.length : Int) ≤ k.co
  · rw [(print_room hr).1]; simp; omega
  · rw [(print_full hr).1]; exact t3
theorem rright_few {w : World} {k : VmK} {L : VmL} (h : IsVm w k L) (f : LFit L) (hr : vRight k L = true) : Calls Tryz.prog 21 #[vmV k] w fun e w' => e = .returned (.bool true) ∧ Below w.heap.size w w' := by
  obtain ⟨a1, a2, a3, a4, a5, a6, a7, a8⟩ := fit_lens f h.lens
  have := rvright_any k L w (Lib.hid (by omega)) h
  rw [hr] at this
  exact this
theorem pushV_full {k : VmK} {L : VmL} (h : ¬ ((L.d.length : Int) < k.cd)) (n : Int) : pushV k L n = L := by
  unfold pushV
  rw [(push_full h n).1]
theorem rpushV_full {k : VmK} {L : VmL} (h : ¬ ((L.r.length : Int) < k.cr)) (n : Int) : rpushV k L n = L := by
  unfold rpushV
  rw [(push_full h n).1]
theorem printV_full {k : VmK} {L : VmL} {s : List UInt8} (h : ¬ ((L.o.length : Int) + (s.length : Int) ≤ k.co)) : printV k L s = L := by
  unfold printV
  rw [(print_full h).1]
/-- What was pushed is popped. -/
theorem pop_push {w : World} {k j : VmK} {L : VmL} {n : Int} (hr : (L.d.length : Int) < k.cd) (h : IsVm w j (pushV k L n)) (f : LFit (pushV k L n)) : Calls Tryz.prog 28 #[vmV j] w (QOut n j L 0 w) := by
  obtain ⟨a1, a2, a3, a4, a5, a6, a7, a8⟩ := fit_lens f h.lens
  have hc := vpop_use j (pushV k L n) w (by omega) h
  have e : (pushV k L n).d = L.d ++ [n] := (push_room hr n).1
  have p := pop_app L.d n
  have e2 : popV (pushV k L n) = L := by show ({ pushV k L n with d := popL (pushV k L n).d } : VmL) = L; rw [e, p.2.1]; rfl
  rw [e2, e, p.1, p.2.2.1] at hc
  exact hc
theorem rpop_rpush {w : World} {k j : VmK} {L : VmL} {n : Int} (hr : (L.r.length : Int) < k.cr) (h : IsVm w j (rpushV k L n)) (f : LFit (rpushV k L n)) : Calls Tryz.prog 32 #[vmV j] w (QOut n j L 0 w) := by
  obtain ⟨a1, a2, a3, a4, a5, a6, a7, a8⟩ := fit_lens f h.lens
  have hc := vrpop_use j (rpushV k L n) w (by omega) h
  have e : (rpushV k L n).r = L.r ++ [n] := (push_room hr n).1
  have p := pop_app L.r n
  have e2 : rpopV (rpushV k L n) = L := by show ({ rpushV k L n with r := popL (rpushV k L n).r } : VmL) = L; rw [e, p.2.1]; rfl
  rw [e2, e, p.1, p.2.2.2] at hc
  exact hc
end Go.Proofs.YtbighilgkmfemaaGreatDoor
