/- Part 48. -/
import Derived.Test.YtlgnijhemfkflaaGreatDoorSetPrimDividesZero
import Derived.Test.YtlgnijhemfkflaaGreatDoorSetPrimDividesZA
import Derived.Test.YtlgnijhemfkflaaGreatDoorSetPrimDividesZU
import Derived.Test.YtlgnijhemfkflaaGreatDoorSetPrimDividesR
set_option linter.unusedVariables false
set_option linter.unusedSimpArgs false

namespace Go.Proofs.YtlgnijhemfkflaaGreatDoor
open Go.RowKit
set_option linter.unusedVariables false
set_option linter.unusedSimpArgs false
theorem drew_bel0 (w : World) : Below w.heap.size w w.drew := ⟨rfl, rfl, rfl, Nat.le_refl _, fun _ _ => rfl⟩
theorem al_th0 {w0 w : World} {o : Obj} (h : Below w0.heap.size w0 w) : Below w0.heap.size w0 (w.alloc o) := h.alloc h.size o
structure DoneAt (wS wx : World) (b : Nat) (j2 j : VmK) (E : Eff) : Prop where
  lo : wS.heap.size ≤ b
  box : VBox wx b j2
  vm : IsVm wx j2 E.L
  sc : Sc j2 E.K
  loc : MLoc wS.heap.size j2 j
  bel : Below wS.heap.size wS wx
def stS : VmK := { vm0 with cm := 2048, cd := 32, cr := 32, cw := 200, co := 500, here := 1368 }
def stL (l : List Int) : VmL := { newL 2048 with d := l }
theorem res_c1 {fn : Func} {p : Tmp} (h : fn.results = #[.cell p 36]) (tmps : Array Value) (w : World) (b : Nat) (k : VmK) (hp : tmps.getD p undef = .pointer (some ⟨b, 0, none⟩)) (hb : VBox w b k) :
    (results fn tmps).run Tryz.prog w = .ok (vmV k) w := by
  have hp' : tmps[p]?.getD undef = .pointer (some ⟨b, 0, none⟩) := by simpa using hp
  simp [results, h, hp', asAddr, vm_load hb]
theorem vbox_nostr {w : World} {b : Nat} {k : VmK} (h : VBox w b k) (o : Nat) (s : ByteArray) : w.cell? ⟨b, o, none⟩ ≠ some (.string s) := by
  intro e;unfold VBox at h;unfold World.cell? at e;rw [h] at e;have e' : (vmC k)[o]? = some (.string s) := by simpa using e
  have hm := Array.mem_of_getElem? e';simp at hm
set_option maxRecDepth 100000 in
theorem newW_first : ∃ s, (wds (newW 167))[0]? = some (.string s) := ⟨strB (wordN 0).nm, by kernel_rfl⟩
theorem new_ex {u V : World} {k j : VmK} {N b : Nat} (h : IsVm u k (newL N)) (x : Ex (fun g => g = b) u V) (hb : VBox u b j) : IsVm V k (newL N) := by
  have hv : ∀ g, g < u.heap.size → V.heap[g]? = u.heap[g]? ∨ NoU8 u g := fun g hg => by
    by_cases e : g = b
    · subst e; exact .inr (vbox_nou8 hb)
    · exact .inl (x.same g hg e)
  refine ⟨?_, ⟨h.d.1, h.d.2.1, h.d.2.2.1, .inl rfl⟩, ⟨h.r.1, h.r.2.1, h.r.2.2.1, .inl rfl⟩, ?_, ?_, byt_across h.o x.size hv, byt_across h.q x.size hv, ?_, ?_⟩
  · obtain ⟨b0, o0, e, h1, A, c, qs, g1, g2, g3, g4, g5⟩ := h.m
    have hq : qs = [] := by
      have : qs.length = 0 := g5.1;exact List.eq_nil_of_length_eq_zero this
    subst hq;exact ⟨b0, o0, e, byt_across h1 x.size hv, A, c, [], g1, g2, g3, .inl rfl, g5.1, fun i q p hq hp => by cases hq⟩
  · obtain ⟨A', c', e, h1, h2, _⟩ := h.f
    exact ⟨A', c', e, h1, h2, .inl rfl⟩
  · obtain ⟨A', c', e, h1, h2, h4⟩ := h.dict
    refine ⟨A', c', e, h1, h2, ?_⟩
    rcases h4 with h4 | ⟨g, o, e, hg, hc⟩
    · exact .inl h4
    · have hgb : g ≠ b := by
        intro eg;subst eg;obtain ⟨s, hs⟩ := newW_first;exact vbox_nostr hb _ _ (hc 0 _ hs)
      refine .inr ⟨g, o, e, Nat.lt_of_lt_of_le hg x.size, fun i v hi => ?_⟩;have := hc i v hi;unfold World.cell? at this ⊢;rw [x.same g hg hgb];exact this
  · obtain ⟨A', c', e, h1, h2, _⟩ := h.e
    exact ⟨A', c', e, h1, h2, .inl rfl⟩
  · obtain ⟨A', c', e, h1, h2, _⟩ := h.h
    exact ⟨A', c', e, h1, h2, .inl rfl⟩
set_option maxRecDepth 100000 in
set_option maxHeartbeats 4000000 in
theorem stocked_any (A : Option Addr) (n c : Nat) (l : List Int) (w : World) (h : Row w A n c l) : Calls Tryz.prog 21 #[.slice A n c] w fun e w' => ∃ k, e = .returned (vmV k) ∧ IsVm w' k (stL l) ∧ Sc k stS ∧ Below w.heap.size w w' := by
  have HR := Lib.hid h;clear h;go_enter Tryz.func21, Tryz.ntmps21;go_upto_region 1 with fail
  generalize hw1 : World.alloc _ _ = w1;have kb : Below w.heap.size w w1 := by rw [← hw1]; exact al_one _ _
  have kz : VBox w1 w.heap.size vm0 := by rw [← hw1]; exact vbox_zero _
  have KS : Hid (w1.heap.size = w.heap.size + 1) := by show _ = _; rw [← hw1]; simp
  clear hw1;have Z1 := Lib.hid kz;have B1 := Lib.hid kb;clear kz kb;(go_wp2_with fail);refine (rnew_any 2048 32 32 200 500 w1).mono ?_;rintro e w2 ⟨h1, _, bb⟩;obtain ⟨L, g, A2, c2, hL, rfl, hv⟩ := h1 (by decide);obtain rfl : L = 2048 := by omega
  have V2 := Lib.hid hv;have S2 : Hid (Sc (newK 2048 32 32 200 500 g A2 c2) stS) := ⟨rfl, rfl, rfl, rfl, rfl, rfl, rfl, rfl, rfl, rfl, rfl, rfl, rfl⟩;have Z2 := Lib.hid (Z1.out.keep bb);have B2 := Lib.hid (below_then B1.out bb);have KS2 : Hid (w.heap.size + 1 ≤ w2.heap.size) := by show _ ≤ _; have := bb.size; have := KS.out; omega
  clear hv bb hL Z1 B1 h1;generalize newK 2048 32 32 200 500 g A2 c2 = k at V2 S2 ⊢;go_upto_region 2 with (refine wpList_vstore (by rfl) _ _ rfl _ vm0 k rfl rfl (vbox_zero _) ?_)
  generalize hw3 : World.setRow _ _ _ = w3;have kb : Below w2.heap.size w2 w3 := by rw [← hw3]; exact below_setRow (al_one _ _) (Nat.le_refl _) _
  have hx : VBox w3 w2.heap.size k := by rw [← hw3]; exact vrow (vbox_zero w2) k
  have kb0 := kb.size;clear hw3;have X3 := Lib.hid hx;have Z3 := Lib.hid (Z2.out.keep kb);have V3 := Lib.hid (V2.out.keep kb);have B3 := Lib.hid (below_then B2.out kb);have F8 := X3.out.free.2.2.2.2.2.2.2.2.1;obtain ⟨p0, p1, p2, p3, p4, p5, p6, p7, P8, p9, p10, p11, p12, p13, p14, p15, p16, p17, p18, p19, p20, p21, p22⟩ := X3.out.use;clear p0 p1 p2 p3 p4 p5 p6 p7 p9 p10 p11 p12 p13 p14 p15 p16 p17 p18 p19 p20 p21 p22;clear kb hx Z2 V2 B2;go_upto_region 3 with fail
  generalize hV : World.setCell _ _ _ = V;have XW : Hid (VBox V w2.heap.size { k with dA := A, dn := n, dc := c }) := by show VBox _ _ _; rw [← hV]; exact X3.out.put_d _ _ _
  have ZW : Hid (VBox V w.heap.size vm0) := by show VBox _ _ _; rw [← hV]; exact vset_far Z3.out (by have := KS2.out; omega)
  have BW : Hid (Below w.heap.size w V) := by show Below _ _ _; rw [← hV]; exact B3.out.setCell (by have := KS2.out; show w.heap.size ≤ w2.heap.size; omega) _
  have VW : Hid (IsVm V k (newL 2048)) := by show IsVm _ _ _; rw [← hV]; exact new_ex V3.out ((Ex.refl _ _).cell (X := fun g => g = w2.heap.size) (b := w2.heap.size) rfl _) X3.out
  clear hV F8 P8 X3 Z3 V3 B3;(go_wp2_with (first | (refine wpList_vload (by rfl) _ rfl _ _ rfl XW.out ?_) | (refine wpList_vstore (by rfl) _ _ rfl _ vm0 _ rfl rfl ZW.out ?_)));have kb2 := below_setRow BW.out (Nat.le_refl w.heap.size) (vmC { k with dA := A, dn := n, dc := c });have hf := new_ex VW.out (Ex.row (X := fun g => g = w.heap.size) (b := w.heap.size) (Ex.refl _ _) rfl (vmC { k with dA := A, dn := n, dc := c })) ZW.out;refine bodyPost_ret (res_c1 rfl _ _ _ _ rfl (vrow ZW.out _)) rfl ⟨{ k with dA := A, dn := n, dc := c }, rfl, ⟨hf.m, HR.out.keep kb2, hf.r, hf.f, hf.dict, hf.o, hf.q, hf.e, hf.h⟩, ⟨S2.out.cm, S2.out.cd, S2.out.cr, S2.out.cw, S2.out.co, S2.out.here, S2.out.last, S2.out.qo, S2.out.free, S2.out.next, S2.out.arg, S2.out.self, S2.out.now⟩, kb2⟩
structure RunAt (ns : List Nat) (k : VmK) (L : VmL) (w : World) (i : Nat) (wr : World) (j k' : VmK) (L' : VmL) : Prop where
  le : i ≤ ns.length
  res : runE (ns.drop i) k' L' = runE ns k L
  ok : OkRun (ns.drop i) k' L'
  sc : Sc j k'
  vm : IsVm wr j L'
  loc : MLoc (w.heap.size + 2) j k
  box : VBox wr w.heap.size j
  zbox : VBox wr (w.heap.size + 1) vm0
  bel : Below w.heap.size w wr
set_option maxRecDepth 100000 in
set_option maxHeartbeats 4000000 in
theorem run_any (ns : List Nat) (hns : ∀ n ∈ ns, n < 130) (hl : ns.length ≤ 100) (k : VmK) (L : VmL) (A : Option Addr) (c : Nat) (w : World) (HT : Tab w) (h : IsVm w k L) (ho : OkRun ns k L) (hs : Sts w (.slice A ns.length c) (ns.map nmP)) :
    Calls Tryz.prog 20 #[vmV k, .slice A ns.length c] w fun e w' => ∃ j, e = .returned (.tuple #[vmV j, .bool (runE ns k L).1]) ∧ IsVm w' j (runE ns k L).2.2 ∧ Sc j (runE ns k L).2.1 ∧ Below w.heap.size w w' := by
  have V0 := Lib.hid h;have T0 := Lib.hid HT;have S0 := Lib.hid hs;have HO := Lib.hid ho;have HN := Lib.hid hns;have HLL : Hid (ns.length ≤ 100) := hl;clear h HT hs ho hns hl;go_enter Tryz.func20, Tryz.ntmps20;go_upto_region 1 with fail
  generalize hw1 : World.alloc (World.alloc _ _) _ = w1;have kb : Below w.heap.size w w1 := by rw [← hw1]; exact al_two _ _ _
  have kx : VBox w1 w.heap.size k := by rw [← hw1]; exact (in_two w k _).2
  have kz : VBox w1 (w.heap.size + 1) vm0 := by rw [← hw1]; exact in_two0 w _
  have KS : Hid (w1.heap.size = w.heap.size + 1 + 1) := by show _ = _; rw [← hw1]; exact in_twos w _ _
  clear hw1;have X1 := Lib.hid kx;have Z1 := Lib.hid kz;have B1 := Lib.hid kb;clear kx kz kb;(go_wp2_with fail)
  go_loopw [6] (fun s6 wr => ∃ (i : Nat) (j k' : VmK) (L' : VmL), s6 = .int .i64 (i : Int) ∧ Hid (RunAt ns k L w i wr j k' L')) (fun s6 _ => ns.length - (intOf s6).toNat)
  case atStart => exact ⟨0, k, k, L, rfl, Lib.hid ⟨Nat.zero_le _, rfl, HO.out, Sc.refl _, V0.out.keep B1.out, MLoc.refl _ _, X1.out, Z1.out, B1.out⟩⟩
  case round =>
    obtain ⟨i, j, k', L', rfl, HR⟩ := hrel;have XB := Lib.hid HR.out.box;have ZB := Lib.hid HR.out.zbox
    by_cases hil : i < ns.length
    · obtain ⟨n, hn⟩ : ∃ n, ns[i] = n := ⟨_, rfl⟩
      have hd : ns.drop i = n :: ns.drop (i + 1) := by rw [List.drop_eq_getElem_cons hil, hn]
      have h130 : n < 130 := HN.out n (by rw [← hn]; exact List.getElem_mem hil);obtain ⟨g, o, rfl, c1⟩ := sts_cell (S0.out.keep HR.out.bel) (k := i) (by simpa using hil);have e1 : (ns.map nmP)[i]'(by simpa using hil) = nmP n := by simp [hn]
      rw [e1] at c1;have C1 := Lib.hid c1;have HGL : Hid (g < wr.heap.size) := Lib.hid (World.block_lt_of_cell? _ _ c1);have TT : Hid (Tab wr) := Lib.hid (T0.out.keep HR.out.bel);have VV := Lib.hid HR.out.vm;have NC := Lib.hid fun w => number_any n h130 w
      obtain ⟨hok, hnx⟩ : Ok k' L' ∧ ((doE (n : Int) k' L').c = 0 → OkRun (ns.drop (i + 1)) (doE (n : Int) k' L').K (doE (n : Int) k' L').L) := by
        have := HR.out.ok;rw [hd] at this;exact this
      have DC := Lib.hid fun u ht hv => do_any j L' (n : Int) u ht (hok.sc HR.out.sc) hv
      have hsc := doE_sc HR.out.sc (n : Int) L';have RS : Hid (runE ns k L = if (doE (n : Int) k' L').c = 0 then runE (ns.drop (i + 1)) (doE (n : Int) k' L').K (doE (n : Int) k' L').L else (false, k', L')) := by
        show _ = _;rw [← HR.out.res, hd];rfl
      generalize doE (n : Int) k' L' = F at hnx hsc RS;generalize doE (n : Int) j L' = E at hsc DC;have SC := Lib.hid hsc;have NX := Lib.hid hnx;have hil' : (i : Int) < (ns.length : Int) := by omega
      have hl9 := HLL.out;have HIL := Lib.hid hil;clear hd h130 c1 e1 hok hnx hsc hn hil;go_upto_region 4 with fail
      go_cut [7, 8] (fun s7 s8 wx => ∃ b j2, s7 = .pointer (some ⟨b, 0, none⟩) ∧ s8 = .int .i64 E.c ∧ Hid (DoneAt wr wx b j2 j E))
      case first =>
        refine wp_region_noPanic ?_;refine wp_region_held_drew (S := fun a9 => Below wr.heap.size wr a9) (by kernel_rfl) (drew_bel0 _) (fun hHeld => ?_);refine zqt (i := 0) (v := vmV j) (fun u hSu => exec_vl _ rfl w.heap.size j rfl (XB.out.keep hSu)) ?_;(try simp only [zq0, zq1, zq2, Act.put, zq3, zq4, zq5]);refine zqt (i := 1) (v := ?v1n12) ?y1n12 ?r1n12
        case y1n12 =>
          intro u hSu;(try dsimp only at hSu);go_simp;(try with_reducible rfl)
        (try simp only [zq0, zq1, zq2, Act.put, zq3, zq4, zq5]);refine zqt (i := 2) (v := ?v2n13) ?y2n13 ?r2n13
        case y2n13 =>
          intro u hSu;(try dsimp only at hSu);go_simp;(try with_reducible rfl)
        (try simp only [zq0, zq1, zq2, Act.put, zq3, zq4, zq5]);refine zqt (i := 3) (v := ?v3n14) ?y3n14 ?r3n14
        case y3n14 =>
          intro u hSu;(try dsimp only at hSu);have hg2 := HGL.out;go_simp;(try with_reducible rfl)
        (try simp only [zq0, zq1, zq2, Act.put, zq3, zq4, zq5]);refine zqt (i := 4) (v := ?v4n15) ?y4n15 ?r4n15
        case y4n15 =>
          intro u hSu;(try dsimp only at hSu);have q0 := (hSu.cell (p := ⟨g, o + i, none⟩) HGL.out).trans C1.out;go_simp;(try with_reducible rfl)
        (try simp only [zq0, zq1, zq2, Act.put, zq3, zq4, zq5]);have W9 := Lib.hid (Below.refl wr.heap.size wr);refine wpAnyH_ready (rs := [5, 10]) (by kernel_rfl) (by simp) ?_;refine AllReadyH.cons (o := _) rfl (fun K hK => ?_) (AllReadyH.cons (o := _) rfl (fun K hK => ?_) AllReadyH.nil)
        · skip
          go_simp;refine (NC.out _).mono ?_;rintro e uzn16 ⟨rfl, b9⟩;have hN : Below wr.heap.size wr uzn16 := by first | exact below_then hHeld b9 | exact below_then (below_then hHeld (drew_bel0 _)) b9
          (go_wp2_with fail);clear hHeld b9;refine hK.out _ _ hN (fun hHeld => ?_);clear hK K hN;(try simp only [zq0, zq1, zq2, Act.put, zq3, zq4, zq5]);refine wpAnyH_ready (rs := [6, 10]) (by kernel_rfl) (by simp) ?_;refine AllReadyH.cons (o := _) rfl (fun K hK => ?_) (AllReadyH.cons (o := _) rfl (fun K hK => ?_) AllReadyH.nil)
          · skip
            go_simp;have hltuzn17 := hHeld.size;refine (DC.out _ (TT.out.keep hHeld) (VV.out.keep hHeld)).mono ?_;rintro e uzn17 ⟨j2, rfl, hv, hs, hl, b9⟩;have HV := Lib.hid hv;have HS := Lib.hid hs;have HL := Lib.hid hl;have HU := Lib.hid (show wr.heap.size ≤ (uzn16).heap.size from hltuzn17);clear hv hs hl hltuzn17;have hN : Below wr.heap.size wr uzn17 := by first | exact below_then hHeld b9 | exact below_then (below_then hHeld (drew_bel0 _)) b9
            (go_wp2_with fail);clear hHeld b9;refine hK.out _ _ hN (fun hHeld => ?_);clear hK K hN;(try simp only [zq0, zq1, zq2, Act.put, zq3, zq4, zq5]);refine zqt (i := 7) (v := ?v7n18) ?y7n18 ?r7n18
            case y7n18 =>
              intro u hSu;(try dsimp only at hSu);go_simp;(try with_reducible rfl)
            (try simp only [zq0, zq1, zq2, Act.put, zq3, zq4, zq5]);refine zqt (i := 8) (v := ?v8n19) ?y8n19 ?r8n19
            case y8n19 =>
              intro u hSu;(try dsimp only at hSu);go_simp;(try with_reducible rfl)
            (try simp only [zq0, zq1, zq2, Act.put, zq3, zq4, zq5]);refine zqt (i := 9) (v := ?v9n110) ?y9n110 ?r9n110
            case y9n110 =>
              intro u hSu;(try dsimp only at hSu);go_simp;(try with_reducible rfl)
            (try simp only [zq0, zq1, zq2, Act.put, zq3, zq4, zq5]);refine wpAnyH_ready (rs := [10]) (by kernel_rfl) (by simp) ?_;refine AllReadyH.cons (o := _) rfl (fun K hK => ?_) AllReadyH.nil;go_simp;refine hK.out _ _ (al_th0 hHeld) (fun hHeld2 => ?_);clear hK K;(try simp only [zq0, zq1, zq2, Act.put, zq3, zq4, zq5]);generalize hwa : World.alloc _ _ = uzn111 at hHeld2 ⊢;have hz : VBox uzn111 uzn17.heap.size vm0 := by rw [← hwa]; exact vbox_zero _
            have kz : Below (uzn17).heap.size (uzn17) uzn111 := by rw [← hwa]; exact al_one _ _
            have hge : wr.heap.size ≤ uzn17.heap.size := hHeld.size;have HZ := Lib.hid kz;clear hwa hHeld kz;have hHeld := hHeld2;clear hHeld2;refine wpAnyH_ready (rs := [11]) (by kernel_rfl) (by simp) ?_;refine AllReadyH.cons (o := _) rfl (fun K hK => ?_) AllReadyH.nil;refine step_vst rfl _ _ rfl (uzn17.heap.size) vm0 j2 rfl rfl hz ?_;have kb2 := below_setRow hHeld hge (vmC j2);have hr2 := vrow hz j2;refine hK.out _ _ kb2 (fun hHeld2 => ?_);clear hK K;(try simp only [zq0, zq1, zq2, Act.put, zq3, zq4, zq5]);refine zqt (i := 12) (v := ?v12n113) ?y12n113 ?r12n113
            case y12n113 =>
              intro u hSu;(try dsimp only at hSu);go_simp;(try with_reducible rfl)
            (try simp only [zq0, zq1, zq2, Act.put, zq3, zq4, zq5]);refine wpAnyH_done (by kernel_rfl) ?_ _;refine NoPanic.normal ?_;(go_wp2_with fail);go_meet;refine ⟨uzn17.heap.size, j2, rfl, rfl, Lib.hid ⟨hge, hr2, ?_, HS.out, HL.out.le HU.out, kb2⟩⟩;exact IsVm.ex (X := fun g => g = uzn17.heap.size) VV.out HV.out HL.out (Ex.row (X := fun g => g = uzn17.heap.size) (b := uzn17.heap.size) ((Ex.refl _ _).below HZ.out) rfl _) fun g hg e => by subst e; exact absurd hg (Nat.lt_irrefl _)
          · skip
            go_simp;refine hK.out _ _ (al_th0 hHeld) (fun hHeld2 => ?_);clear hK K;(try simp only [zq0, zq1, zq2, Act.put, zq3, zq4, zq5]);generalize hwa : World.alloc _ _ = uzn114 at hHeld2 ⊢;have hz : VBox uzn114 uzn16.heap.size vm0 := by rw [← hwa]; exact vbox_zero _
            have kz : Below (uzn16).heap.size (uzn16) uzn114 := by rw [← hwa]; exact al_one _ _
            have hge : wr.heap.size ≤ uzn16.heap.size := hHeld.size;clear hwa hHeld kz;have hHeld := hHeld2;clear hHeld2;refine wpAnyH_ready (rs := [6]) (by kernel_rfl) (by simp) ?_;refine AllReadyH.cons (o := _) rfl (fun K hK => ?_) AllReadyH.nil;go_simp;have hltuzn115 := hHeld.size;refine (DC.out _ (TT.out.keep hHeld) (VV.out.keep hHeld)).mono ?_;rintro e uzn115 ⟨j2, rfl, hv, hs, hl, b9⟩;have HV := Lib.hid hv;have HS := Lib.hid hs;have HL := Lib.hid hl;have HU := Lib.hid (show wr.heap.size ≤ (uzn114).heap.size from hltuzn115);clear hv hs hl hltuzn115;have hz1 : VBox uzn115 (uzn16.heap.size) vm0 := by first | exact hz.keep b9 | exact VBox.keep (w := World.drew uzn114) hz b9
            have HZ1 := Lib.hid hz.lt;have HZ2 := Lib.hid hz1;clear hz;have hz := hz1;clear hz1;have hN : Below wr.heap.size wr uzn115 := by first | exact below_then hHeld b9 | exact below_then (below_then hHeld (drew_bel0 _)) b9
            (go_wp2_with fail);clear hHeld b9;refine hK.out _ _ hN (fun hHeld => ?_);clear hK K hN;(try simp only [zq0, zq1, zq2, Act.put, zq3, zq4, zq5]);refine zqt (i := 7) (v := ?v7n116) ?y7n116 ?r7n116
            case y7n116 =>
              intro u hSu;(try dsimp only at hSu);go_simp;(try with_reducible rfl)
            (try simp only [zq0, zq1, zq2, Act.put, zq3, zq4, zq5]);refine zqt (i := 8) (v := ?v8n117) ?y8n117 ?r8n117
            case y8n117 =>
              intro u hSu;(try dsimp only at hSu);go_simp;(try with_reducible rfl)
            (try simp only [zq0, zq1, zq2, Act.put, zq3, zq4, zq5]);refine zqt (i := 9) (v := ?v9n118) ?y9n118 ?r9n118
            case y9n118 =>
              intro u hSu;(try dsimp only at hSu);go_simp;(try with_reducible rfl)
            (try simp only [zq0, zq1, zq2, Act.put, zq3, zq4, zq5]);refine wpAnyH_ready (rs := [11]) (by kernel_rfl) (by simp) ?_;refine AllReadyH.cons (o := _) rfl (fun K hK => ?_) AllReadyH.nil;refine step_vst rfl _ _ rfl (uzn16.heap.size) vm0 j2 rfl rfl hz ?_;have kb2 := below_setRow hHeld hge (vmC j2);have hr2 := vrow hz j2;refine hK.out _ _ kb2 (fun hHeld2 => ?_);clear hK K;(try simp only [zq0, zq1, zq2, Act.put, zq3, zq4, zq5]);refine zqt (i := 12) (v := ?v12n120) ?y12n120 ?r12n120
            case y12n120 =>
              intro u hSu;(try dsimp only at hSu);go_simp;(try with_reducible rfl)
            (try simp only [zq0, zq1, zq2, Act.put, zq3, zq4, zq5]);refine wpAnyH_done (by kernel_rfl) ?_ _;refine NoPanic.normal ?_;(go_wp2_with fail);go_meet;refine ⟨uzn16.heap.size, j2, rfl, rfl, Lib.hid ⟨hge, hr2, ?_, HS.out, HL.out.le HU.out, kb2⟩⟩;exact IsVm.ex (X := fun g => g = uzn16.heap.size) VV.out HV.out HL.out (Ex.row (X := fun g => g = uzn16.heap.size) (b := uzn16.heap.size) (Ex.refl _ _) rfl _) fun g hg e => by subst e; exact ⟨hge, HZ1.out, vbox_nou8 HZ2.out⟩
        · skip
          go_simp;refine hK.out _ _ (al_th0 hHeld) (fun hHeld2 => ?_);clear hK K;(try simp only [zq0, zq1, zq2, Act.put, zq3, zq4, zq5]);generalize hwa : World.alloc _ _ = uzn121 at hHeld2 ⊢;have hz : VBox uzn121 wr.drew.heap.size vm0 := by rw [← hwa]; exact vbox_zero _
          have kz : Below (wr).heap.size (wr) uzn121 := by rw [← hwa]; exact al_one _ _
          have hge : wr.heap.size ≤ wr.drew.heap.size := hHeld.size;clear hwa hHeld kz;have hHeld := hHeld2;clear hHeld2;refine wpAnyH_ready (rs := [5]) (by kernel_rfl) (by simp) ?_;refine AllReadyH.cons (o := _) rfl (fun K hK => ?_) AllReadyH.nil;go_simp;refine (NC.out _).mono ?_;rintro e uzn122 ⟨rfl, b9⟩;have hz1 : VBox uzn122 (wr.drew.heap.size) vm0 := by first | exact hz.keep b9 | exact VBox.keep (w := World.drew uzn121) hz b9
          clear hz;have hz := hz1;clear hz1;have hN : Below wr.heap.size wr uzn122 := by first | exact below_then hHeld b9 | exact below_then (below_then hHeld (drew_bel0 _)) b9
          (go_wp2_with fail);clear hHeld b9;refine hK.out _ _ hN (fun hHeld => ?_);clear hK K hN;(try simp only [zq0, zq1, zq2, Act.put, zq3, zq4, zq5]);refine wpAnyH_ready (rs := [6]) (by kernel_rfl) (by simp) ?_;refine AllReadyH.cons (o := _) rfl (fun K hK => ?_) AllReadyH.nil;go_simp;have hltuzn123 := hHeld.size;refine (DC.out _ (TT.out.keep hHeld) (VV.out.keep hHeld)).mono ?_;rintro e uzn123 ⟨j2, rfl, hv, hs, hl, b9⟩;have HV := Lib.hid hv;have HS := Lib.hid hs;have HL := Lib.hid hl;have HU := Lib.hid (show wr.heap.size ≤ (uzn122).heap.size from hltuzn123);clear hv hs hl hltuzn123;have hz1 : VBox uzn123 (wr.drew.heap.size) vm0 := by first | exact hz.keep b9 | exact VBox.keep (w := World.drew uzn122) hz b9
          have HZ1 := Lib.hid hz.lt;have HZ2 := Lib.hid hz1;clear hz;have hz := hz1;clear hz1;have hN : Below wr.heap.size wr uzn123 := by first | exact below_then hHeld b9 | exact below_then (below_then hHeld (drew_bel0 _)) b9
          (go_wp2_with fail);clear hHeld b9;refine hK.out _ _ hN (fun hHeld => ?_);clear hK K hN;(try simp only [zq0, zq1, zq2, Act.put, zq3, zq4, zq5]);refine zqt (i := 7) (v := ?v7n124) ?y7n124 ?r7n124
          case y7n124 =>
            intro u hSu;(try dsimp only at hSu);go_simp;(try with_reducible rfl)
          (try simp only [zq0, zq1, zq2, Act.put, zq3, zq4, zq5]);refine zqt (i := 8) (v := ?v8n125) ?y8n125 ?r8n125
          case y8n125 =>
            intro u hSu;(try dsimp only at hSu);go_simp;(try with_reducible rfl)
          (try simp only [zq0, zq1, zq2, Act.put, zq3, zq4, zq5]);refine zqt (i := 9) (v := ?v9n126) ?y9n126 ?r9n126
          case y9n126 =>
            intro u hSu;(try dsimp only at hSu);go_simp;(try with_reducible rfl)
          (try simp only [zq0, zq1, zq2, Act.put, zq3, zq4, zq5]);refine wpAnyH_ready (rs := [11]) (by kernel_rfl) (by simp) ?_;refine AllReadyH.cons (o := _) rfl (fun K hK => ?_) AllReadyH.nil;refine step_vst rfl _ _ rfl (wr.drew.heap.size) vm0 j2 rfl rfl hz ?_;have kb2 := below_setRow hHeld hge (vmC j2);have hr2 := vrow hz j2;refine hK.out _ _ kb2 (fun hHeld2 => ?_);clear hK K;(try simp only [zq0, zq1, zq2, Act.put, zq3, zq4, zq5]);refine zqt (i := 12) (v := ?v12n128) ?y12n128 ?r12n128
          case y12n128 =>
            intro u hSu;(try dsimp only at hSu);go_simp;(try with_reducible rfl)
          (try simp only [zq0, zq1, zq2, Act.put, zq3, zq4, zq5]);refine wpAnyH_done (by kernel_rfl) ?_ _;refine NoPanic.normal ?_;(go_wp2_with fail);go_meet;refine ⟨wr.drew.heap.size, j2, rfl, rfl, Lib.hid ⟨hge, hr2, ?_, HS.out, HL.out.le HU.out, kb2⟩⟩;exact IsVm.ex (X := fun g => g = wr.drew.heap.size) VV.out HV.out HL.out (Ex.row (X := fun g => g = wr.drew.heap.size) (b := wr.drew.heap.size) (Ex.refl _ _) rfl _) fun g hg e => by subst e; exact ⟨hge, HZ1.out, vbox_nou8 HZ2.out⟩
      case rest =>
        obtain ⟨b, j2, rfl, rfl, HD⟩ := hcut;have ZB2 := Lib.hid (ZB.out.keep HD.out.bel);have XB2 := Lib.hid (XB.out.keep HD.out.bel);have BX := Lib.hid HD.out.box
        by_cases hc : E.c = 0
        · have g1 : (E.c != 0) = false := by simp [hc]
          have HC := Lib.hid hc;clear hc;go_upto_region 3 with (first | (refine wpList_vload (by rfl) _ rfl b j2 rfl BX.out ?_) | (refine wpList_vstore (by rfl) _ _ rfl w.heap.size j j2 rfl rfl XB2.out ?_))
          have bl := HD.out.bel.size;generalize hv : World.setRow _ _ _ = V;have P1 : VBox V w.heap.size j2 := by rw [← hv]; exact vrow XB2.out _
          have P2 : VBox V (w.heap.size + 1) vm0 := by rw [← hv]; exact vrow_fr ZB2.out (by omega) _
          have P3 : Below w.heap.size w V := by rw [← hv]; exact below_setRow (below_then HR.out.bel HD.out.bel) (Nat.le_refl _) _
          have ML : MLoc (w.heap.size + 2) j2 k := (HD.out.loc.le (by have := ZB.out.lt; omega)).trans HR.out.loc;have P4 : IsVm V j2 E.L := by
            rw [← hv];exact IsVm.ex (X := fun g => g = w.heap.size) V0.out HD.out.vm ML (Ex.row (X := fun g => g = w.heap.size) (b := w.heap.size) (Ex.refl _ _) rfl _) fun g hg e => by subst e; exact ⟨Nat.le_refl _, by omega, vbox_nou8 XB2.out⟩
          have R2 : Hid (RunAt ns k L w (i + 1) V j2 F.K F.L) := by
            obtain ⟨s1, s2, s3, s4⟩ := SC.out;have hF : F.c = 0 := by rw [← s1]; exact HC.out
            refine ⟨HIL.out, ?_, NX.out hF, HD.out.sc.trans s4, by rw [← s3]; exact P4, ML, P1, P2, P3⟩;have := RS.out;rw [if_pos hF] at this;exact this.symm
          clear hv P1 P2 P3 P4 ML bl;(go_wp2_with fail)
          go_roundw
          case rel => exact ⟨i + 1, j2, F.K, F.L, by simp, R2⟩
          case measure => have := HIL.out; simp [intOf]; omega
        · have g1 : (E.c != 0) = true := by simp [hc]
          have HC : Hid (E.c ≠ 0) := hc;clear hc;(go_wp2_with (first | (refine wpList_vload (by rfl) _ rfl w.heap.size j rfl XB2.out ?_) | (refine wpList_vstore (by rfl) _ _ rfl _ vm0 j rfl rfl ZB2.out ?_)));have bl := HD.out.bel.size;have kb2 := below_setRow (below_then HR.out.bel HD.out.bel) (show w.heap.size ≤ w.heap.size + 1 by omega) (vmC j);have P4 := IsVm.ex (X := fun g => g = w.heap.size + 1) V0.out (HR.out.vm.keep HD.out.bel) HR.out.loc (Ex.row (X := fun g => g = w.heap.size + 1) (b := w.heap.size + 1) (Ex.refl _ _) rfl (vmC j)) fun g hg e => by subst e; exact ⟨by omega, by omega, vbox_nou8 ZB2.out⟩
          have hF : ¬ F.c = 0 := by have := SC.out.1; have := HC.out; omega
          have hR := RS.out;rw [if_neg hF] at hR;refine bodyPost_ret (res_ct rfl _ _ _ _ rfl (vrow ZB2.out j)) rfl ⟨j, by rw [hR]; first | done | rfl, by rw [hR]; exact P4, by rw [hR]; exact HR.out.sc, kb2⟩
    · have hi2 := HR.out.le
      obtain rfl : i = ns.length := by omega
      have hkk : decide ((ns.length : Int) < (ns.length : Int)) = false := by simp
      have RS : Hid (runE ns k L = (true, k', L')) := by
        show _ = _;rw [← HR.out.res, List.drop_length];rfl
      clear hil hi2;(go_wp2_with (first | (refine wpList_vload (by rfl) _ rfl w.heap.size j rfl XB.out ?_) | (refine wpList_vstore (by rfl) _ _ rfl _ vm0 j rfl rfl ZB.out ?_)));have kb2 := below_setRow HR.out.bel (show w.heap.size ≤ w.heap.size + 1 by omega) (vmC j);have P4 := IsVm.ex (X := fun g => g = w.heap.size + 1) V0.out HR.out.vm HR.out.loc (Ex.row (X := fun g => g = w.heap.size + 1) (b := w.heap.size + 1) (Ex.refl _ _) rfl (vmC j)) fun g hg e => by subst e; exact ⟨by omega, by omega, vbox_nou8 ZB.out⟩
      have hR := RS.out;refine bodyPost_ret (res_ct rfl _ _ _ _ rfl (vrow ZB.out j)) rfl ⟨j, by rw [hR]; first | done | rfl, by rw [hR]; exact P4, by rw [hR]; exact HR.out.sc, kb2⟩
end Go.Proofs.YtlgnijhemfkflaaGreatDoor

namespace Go.Proofs.YtlgnijhemfkflaaGreatDoor
open Go.RowKit
set_option linter.unusedVariables false
set_option linter.unusedSimpArgs false
theorem row_lit (w : World) (l : List Int) (h : l.length ≤ 65536) : Row (w.alloc (.cells (ints l).toArray 3)) (some ⟨w.heap.size, 0, none⟩) l.length l.length l := ⟨rfl, Nat.le_refl _, by unfold maxLen; omega, lies_block (heap_alloc_new w _)⟩
set_option maxRecDepth 100000 in
theorem st_len {l : List Int} : (stL l).m.1.length = 2048 := rowN_len 2048 167
set_option maxRecDepth 100000 in
theorem ok_st {k : VmK} (hs : Sc k stS) {l : List Int} (hl : l.length ≤ 32) (hr : ∀ x ∈ l, cellR x) : Ok k (stL l) := by
  have e := st_len (l := l);refine Ok.sc hs ⟨by rw [e]; decide, by rw [e]; decide, by show ([] : List Pt).length ≤ 900; decide, by show l.length ≤ _; omega, hr, by show ([] : List UInt8).length ≤ 60000; decide, by show ([] : List UInt8).length ≤ 900; decide, by show ([] : List Rq).length ≤ 100; decide, by show ([] : List Hn).length ≤ 1000; decide, by decide, by decide, by decide, by decide, by decide, by rw [e]; decide, by rw [e]; rfl⟩
theorem do_at {k K : VmK} {L M : VmL} {n C : Int} (w : World) (HT : Tab w) (ok : Ok k L) (h : IsVm w k L) (s : Sc k K) (hc : (doE n K L).c = C) (hm : (doE n K L).L = M) :
    Calls Tryz.prog 14 #[vmV k, .int .i64 n] w (DeedOut ⟨C, [], (doE n K L).K, M⟩ k w) := by
  refine (do_any k L n w HT ok h).mono ?_;rintro e w1 ⟨j, rfl, hv, hs, hl, bb⟩;obtain ⟨s1, s2, s3, s4⟩ := doE_sc s n L;refine ⟨j, by rw [s1, hc], ?_, hs.trans s4, hl, bb⟩;show IsVm w1 j M;rw [← hm, ← s3];exact hv
theorem fit_st {l : List Int} (h : l.length ≤ 301) : LFit (stL l) := ⟨by rw [st_len]; decide, h, by show ([] : List Int).length ≤ _; decide, by show ([] : List Fm).length ≤ _; decide, by show (newW 167).length ≤ _; decide +kernel, by show ([] : List UInt8).length ≤ _; decide, by show ([] : List Rq).length ≤ _; decide, by show ([] : List Hn).length ≤ _; decide⟩
theorem sts_lit (w : World) (l : List (List UInt8)) (h : l.length ≤ 65536) : Sts (w.alloc (.cells (sts l).toArray 9)) (.slice (some ⟨w.heap.size, 0, none⟩) l.length l.length) l := sts_block (heap_alloc_new w _) h
theorem deed_st {t : Nat} {f : VmK → VmL → List Int → Eff} {k : VmK} {L : VmL} {lo x : List Int} (hd : L.d = lo ++ x) (ht : x.length = t) :
    deedE t f k L = if (f k L x).c = 0 then (if k.cd < ((lo.length + (f k L x).o.length : Nat) : Int) then ⟨-3, [], k, L⟩ else ⟨0, [], (f k L x).K, { (f k L x).L with d := lo ++ (f k L x).o }⟩) else ⟨(f k L x).c, [], k, L⟩ := by
  have e1 : L.d.length - t = lo.length := by rw [hd, List.length_append]; omega
  have e2 : L.d.drop (L.d.length - t) = x := by rw [e1, hd, List.drop_left]
  have e3 : L.d.take (L.d.length - t) = lo := by rw [e1, hd, List.take_left]
  unfold deedE;rw [if_neg (by rw [hd, List.length_append]; omega), e2, e3, e1]
theorem do_deed (n : Nat) (h1 : 39 ≤ n) (h2 : n ≤ 129) (k : VmK) (L : VmL) : doE (n : Int) k L = deedE (takesF n) (effF n) k L := by
  unfold doE;rw [if_pos (by omega), if_neg (by omega), show ((n : Int)).toNat = n from by omega]
theorem do_st (n : Nat) (h1 : 39 ≤ n) (h2 : n ≤ 129) {k : VmK} {L : VmL} (lo x : List Int) {E : Eff} (hE : effF n k L x = E) (hd : L.d = lo ++ x) (hx : x.length = takesF n) (hlim : ((lo.length + E.o.length : Nat) : Int) ≤ k.cd) :
    doE (n : Int) k L = if E.c = 0 then ⟨0, [], E.K, { E.L with d := lo ++ E.o }⟩ else ⟨E.c, [], k, L⟩ := by
  rw [do_deed n h1 h2, deed_st hd hx, hE, if_neg (show ¬ k.cd < ((lo.length + E.o.length : Nat) : Int) by omega)]
theorem runE_sc : ∀ (ns : List Nat) {j k : VmK} (_ : Sc j k) (L : VmL), (runE ns j L).1 = (runE ns k L).1 ∧ (runE ns j L).2.2 = (runE ns k L).2.2 ∧ Sc (runE ns j L).2.1 (runE ns k L).2.1
  | [], _, _, h, L => ⟨rfl, rfl, h⟩
  | n :: ns, j, k, h, L => by
    obtain ⟨s1, s2, s3, s4⟩ := doE_sc h (n : Int) L;unfold runE;rw [s1, s3]
    split
    · exact runE_sc ns s4 _
    · exact ⟨rfl, rfl, h⟩
theorem okRun_sc : ∀ (ns : List Nat) {j k : VmK} (_ : Sc j k) (L : VmL), OkRun ns k L → OkRun ns j L
  | [], _, _, h, L, _ => trivial
  | n :: ns, j, k, h, L, o => by
    obtain ⟨s1, s2, s3, s4⟩ := doE_sc h (n : Int) L;refine ⟨o.1.sc h, fun hc => ?_⟩;rw [s3];exact okRun_sc ns s4 _ (o.2 (by rw [← s1]; exact hc))
theorem run_st {k K K' : VmK} {L M : VmL} {R : Bool} (ns : List Nat) (hns : ∀ n ∈ ns, n < 130) (hl : ns.length ≤ 100) (A : Option Addr) (c : Nat) (w : World) (HT : Tab w) (h : IsVm w k L) (s : Sc k K) (ok : OkRun ns K L) (hr : runE ns K L = (R, K', M)) (hs : Sts w (.slice A ns.length c) (ns.map nmP)) :
    Calls Tryz.prog 20 #[vmV k, .slice A ns.length c] w fun e w' => ∃ j, e = .returned (.tuple #[vmV j, .bool R]) ∧ IsVm w' j M ∧ Sc j K' ∧ Below w.heap.size w w' := by
  refine (run_any ns hns hl k L A c w HT h (okRun_sc ns s L ok) hs).mono ?_;rintro e w1 ⟨j, rfl, hv, hs, bb⟩;obtain ⟨s1, s2, s3⟩ := runE_sc ns s L;rw [hr] at s1 s2 s3;have s2' : (runE ns k L).2.2 = M := s2;rw [s2'] at hv;exact ⟨j, by rw [s1], hv, hs.trans s3, bb⟩
def D2 (w : World) (k : VmK) (x y : Int) : Prop := ∃ g o, k.dn = 2 ∧ k.dA = some ⟨g, o, none⟩ ∧ g < w.heap.size ∧ w.cell? ⟨g, o, none⟩ = some (.int .i64 x) ∧ w.cell? ⟨g, o + 1, none⟩ = some (.int .i64 y)
theorem D2.keep {w w' : World} {k : VmK} {x y : Int} (h : D2 w k x y) (b : Below w.heap.size w w') : D2 w' k x y := by
  obtain ⟨g, o, e1, e2, hg, c0, c1⟩ := h;exact ⟨g, o, e1, e2, Nat.lt_of_lt_of_le hg b.size, (b.cell (p := ⟨g, o, none⟩) hg).trans c0, (b.cell (p := ⟨g, o + 1, none⟩) hg).trans c1⟩
theorem d2_of {w : World} {k : VmK} {L : VmL} {x y : Int} (h : IsVm w k L) (e : L.d = [x, y]) : D2 w k x y := by
  have hd := h.d;rw [e] at hd;obtain ⟨h1, h2, h3, h4⟩ := hd
  rcases h4 with h4 | ⟨g, o, e9, hg, hc⟩
  · cases h4
  · refine ⟨g, o, h1.symm, e9, hg, ?_, ?_⟩
    · have := hc 0 _ rfl
      rwa [Nat.add_zero] at this
    · exact hc 1 _ rfl
def D1 (w : World) (k : VmK) (x : Int) : Prop := ∃ g o, k.dn = 1 ∧ k.dA = some ⟨g, o, none⟩ ∧ g < w.heap.size ∧ w.cell? ⟨g, o, none⟩ = some (.int .i64 x)
theorem D1.keep {w w' : World} {k : VmK} {x : Int} (h : D1 w k x) (b : Below w.heap.size w w') : D1 w' k x := by
  obtain ⟨g, o, e1, e2, hg, c0⟩ := h;exact ⟨g, o, e1, e2, Nat.lt_of_lt_of_le hg b.size, (b.cell (p := ⟨g, o, none⟩) hg).trans c0⟩
end Go.Proofs.YtlgnijhemfkflaaGreatDoor
