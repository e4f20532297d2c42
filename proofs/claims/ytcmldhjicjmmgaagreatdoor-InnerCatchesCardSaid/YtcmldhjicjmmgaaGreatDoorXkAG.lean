/- Part 7. -/
import Derived.Great.BuildSlice
import Derived.Test.YtcmldhjicjmmgaaGreatDoorXkAF
set_option linter.unusedVariables false
set_option linter.unusedSimpArgs false
set_option maxRecDepth 100000
set_option maxHeartbeats 4000000

namespace Go.Proofs.YtcmldhjicjmmgaaGreatDoor
open Go.RowKit


theorem parts_str (a : Act) (parts : Array (Nat × Operand)) (ls : List (List UInt8)) (hparts : parts.toList = (ls.zipIdx 0).map fun x => (x.2,Operand.const (Value.string (strB x.1)))) :
    (parts.map fun (i,x) => (i,a.eval x)).toList = ((sts ls).zipIdx 0).map fun x => (x.2,x.1):=by
  unfold sts;rw [Array.toList_map,hparts,List.zipIdx_map,List.map_map,List.map_map];rfl
theorem wpList_buildStr {ops : Array Oper} {rest : List Oper} {o : Oper} {a : Act} {w : World} {Q : Exit → Act → World → Prop} (hg : o.guard = none) (len : Nat) (parts : Array (Nat × Operand)) (ho : o.op = .buildSlice 51 len parts)
    (ls : List (List UInt8)) (hlen : len = ls.length) (hpos : 0 < len) (hsmall : len ≤ 2 ^ 24)
    (hparts : parts.toList = (ls.zipIdx 0).map fun x => (x.2,Operand.const (Value.string (strB x.1))))
    (h : wpList Tryz.prog ops Q rest (a.put o.dst (.slice (some ⟨w.heap.size,0,none⟩) len len)) (w.alloc (.cells (sts ls).toArray 9))) : wpList Tryz.prog ops Q (o :: rest) a w:=by
  obtain ⟨i0,hi,hz0,hz1,hz2⟩:=info_parts info_str;refine wpList_buildSlice hg 51 9 len parts ho _ i0 _ Tryz.underlying51 hi hz0 (by rw [hz1]; omega) (by rw [hz1]; omega) ?_ h;rw [parts_str a parts ls hparts,hz1];exact Great.fill_flat _ _ (fun v hv => by unfold sts at hv; obtain ⟨n,_,rfl⟩:=List.mem_map.1 hv; rfl) (by simp [hlen,sts_len])
def primL : List (List UInt8):=[[40,101,120,105,116,41],[40,108,105,116,41],[40,98,114,97,110,99,104,41],[40,48,98,114,97,110,99,104,41],[40,100,111,41],[40,63,100,111,41],[40,108,111,111,112,41],[40,43,108,111,111,112,41],[40,104,97,108,116,41],[40,99,97,117,103,104,116,41],[40,100,111,101,115,41],[40,115,116,114,41],[69,88,69,67,85,84,69],[67,65,84,67,72],[84,72,82,79,87],[73],[74],[85,78,76,79,79,80],[62,82],[82,62],[82,64],[50,62,82],[50,82,62],[68,85,80],[68,82,79,80],[83,87,65,80],[79,86,69,82],[82,79,84],[45,82,79,84],[78,73,80],[84,85,67,75],[63,68,85,80],[50,68,85,80],[50,68,82,79,80],[50,83,87,65,80],[50,79,86,69,82],[80,73,67,75],[82,79,76,76],[68,69,80,84,72],[43],[45],[42],[47],[77,79,68],[65,78,68],[79,82],[88,79,82],[76,83,72,73,70,84],[82,83,72,73,70,84],[77,73,78],[77,65,88],[61],[60,62],[60],[62],[60,61],[62,61],[85,60],[85,62],[78,69,71,65,84,69],[65,66,83],[73,78,86,69,82,84],[49,43],[49,45],[50,42],[50,47],[48,61],[48,60],[48,60,62],[48,62],[67,69,76,76,83],[67,69,76,76,43],[65,76,73,71,78,69,68],[47,77,79,68],[42,47],[42,47,77,79,68],[85,77,42],[85,77,47,77,79,68],[77,42],[83,77,47,82,69,77],[70,77,47,77,79,68],[83,62,68],[87,73,84,72,73,78],[64],[33],[43,33],[67,64],[67,33],[50,64],[50,33],[70,73,76,76],[77,79,86,69],[67,79,85,78,84],[72,69,82,69],[65,76,76,79,84],[44],[67,44],[65,76,73,71,78],[66,65,83,69],[83,84,65,84,69],[84,82,85,69],[70,65,76,83,69],[66,76],[68,69,67,73,77,65,76],[72,69,88],[69,77,73,84],[67,82],[83,80,65,67,69],[83,80,65,67,69,83],[84,89,80,69],[46],[85,46],[60,35],[35],[35,83],[72,79,76,68],[83,73,71,78],[35,62],[62,66,79,68,89],[65,66,79,82,84],[80,79,83,84],[65,70,84,69,82],[69,86,69,82,89],[67,65,78,67,69,76],[65,82,71],[83,69,76,70],[78,79,87],[83,69,84,45,83,84,65,84,69],[65,84,45,83,84,65,84,69],[71,69,84,45,83,84,65,84,69]]
def specL : List (List UInt8):=[[58],[59],[67,82,69,65,84,69],[68,79,69,83,62],[86,65,82,73,65,66,76,69],[67,79,78,83,84,65,78,84],[73,77,77,69,68,73,65,84,69],[39],[91,39,93],[67,72,65,82],[91,67,72,65,82,93],[76,73,84,69,82,65,76],[80,79,83,84,80,79,78,69],[82,69,67,85,82,83,69],[73,70],[69,76,83,69],[84,72,69,78],[66,69,71,73,78],[87,72,73,76,69],[82,69,80,69,65,84],[85,78,84,73,76],[65,71,65,73,78],[68,79],[63,68,79],[76,79,79,80],[43,76,79,79,80],[76,69,65,86,69],[83,34],[46,34],[40],[92],[91],[93],[70,79,82,71,69,84],[77,65,67,72,73,78,69],[79,78,58],[69,88,73,84]]
theorem prim_len : primL.length = 130:=rfl
theorem rnames_any (w : World) : Calls Tryz.prog 33 #[] w fun e w' => e = .returned (.slice (some ⟨w.heap.size,0,none⟩) 130 130) ∧ Sts w' (.slice (some ⟨w.heap.size,0,none⟩) 130 130) primL ∧ Below w.heap.size w w':=by
  go_enter Tryz.func33,Tryz.ntmps33;(go_wp2_with (refine wpList_buildStr rfl 130 _ rfl primL rfl (by decide) (by decide) (by kernel_rfl) ?_));go_ret;exact ⟨rfl,sts_block (l:=primL) (one_newN w _ _) (by decide),al_one _ _⟩
theorem rspecials_any (w : World) : Calls Tryz.prog 34 #[] w fun e w' => e = .returned (.slice (some ⟨w.heap.size,0,none⟩) 37 37) ∧ Sts w' (.slice (some ⟨w.heap.size,0,none⟩) 37 37) specL ∧ Below w.heap.size w w':=by
  go_enter Tryz.func34,Tryz.ntmps34;(go_wp2_with (refine wpList_buildStr rfl 37 _ rfl specL rfl (by decide) (by decide) (by kernel_rfl) ?_));go_ret;exact ⟨rfl,sts_block (l:=specL) (one_newN w _ _) (by decide),al_one _ _⟩


def inB (ls : List (List UInt8)) (s : List UInt8) : Bool:=decide (s ∈ ls)
theorem in_yes {ls : List (List UInt8)} {s : List UInt8} {k : Nat} (h : ls[k]? = some s) : inB ls s = true:=by unfold inB; rw [decide_eq_true_eq]; exact List.mem_of_getElem? h
theorem in_no {ls : List (List UInt8)} {s : List UInt8} (h : ¬ s ∈ ls.take ls.length) : inB ls s = false:=by unfold inB; rw [decide_eq_false_iff_not]; rw [List.take_length] at h; exact h
theorem in_step {ls : List (List UInt8)} {s x : List UInt8} {k : Nat} (h : ¬ s ∈ ls.take k) (hx : ls[k]? = some x) (hne : x ≠ s) : ¬ s ∈ ls.take (k + 1):=by
  rw [List.take_add_one,hx];simp;exact ⟨h,fun e => hne e.symm⟩
theorem rin_any (A : Option Addr) (n c : Nat) (ls : List (List UInt8)) (s : List UInt8) (w : World) (h : Sts w (.slice A n c) ls) (hn : ls.length ≤ 100000) :
    Calls Tryz.prog 55 #[.slice A n c,.string (strB s)] w fun e w' => e = .returned (.bool (inB ls s)) ∧ Below w.heap.size w w':=by
  have en:=h.len;subst en;have HA:=zqh h;clear h;go_enter Tryz.func55,Tryz.ntmps55;(go_wp2_with fail)
  go_loopw [5] (fun s5 wr => ∃ (k : Nat),s5 = .int .i64 (k : Int) ∧ k ≤ ls.length ∧ Hid (¬ s ∈ ls.take k) ∧ Hid (Below w.heap.size w wr)) (fun s5 _ => ls.length - (intOf s5).toNat)
  case atStart => exact ⟨0,rfl,Nat.zero_le _,zqh (by simp),zqh (Below.refl _ _)⟩
  case round =>
    obtain ⟨k,rfl,hk,HT,HW⟩:=hrel
    by_cases hka : k < ls.length
    · have hka' : (k : Int) < (ls.length : Int):=by omega
      obtain ⟨g,o,hA,hc⟩:=sts_cell (HA.out.keep HW.out) hka;have hx:=List.getElem?_eq_getElem hka;obtain ⟨x,ex⟩ : ∃ x,ls[k] = x:=⟨_,rfl⟩;rw [ex] at hc hx;subst hA
      by_cases he : x = s
      · subst he
        have H : Hid (inB ls x = true):=in_yes hx;clear hx ex HT;(go_wp2_with fail);go_ret;exact ⟨by rw [H.out]; rfl,HW.out⟩
      · have hne:=str_ne (a:=strB x) (b:=strB s) (fun e => he (strB_inj e))
        have hne2:=str_neq (a:=strB x) (b:=strB s) (fun e => he (strB_inj e));have HT2 : Hid (¬ s ∈ ls.take (k + 1)):=in_step HT.out hx he;clear hx ex HT he;(go_wp2_with fail)
        go_roundw
        case rel => exact ⟨k + 1,by simp,by omega,HT2,HW⟩
        case measure => simp [intOf]; omega
    · obtain rfl : k = ls.length:=by omega
      have H : Hid (inB ls s = false):=in_no HT.out;have hkk : decide ((ls.length : Int) < (ls.length : Int)) = false:=by simp
      clear hka hk HT;(go_wp2_with fail);go_ret;exact ⟨by rw [H.out]; rfl,HW.out⟩
def onlyL : List (List UInt8):=[[73],[74],[85,78,76,79,79,80],[62,82],[82,62],[82,64],[50,62,82],[50,82,62]]
def nowL : List (List UInt8):=[[46,34],[40],[92],[91]]
def bothL : List (List UInt8):=[[59],[68,79,69,83,62],[91,39,93],[91,67,72,65,82,93],[76,73,84,69,82,65,76],[80,79,83,84,80,79,78,69],[82,69,67,85,82,83,69],[73,70],[69,76,83,69],[84,72,69,78],[66,69,71,73,78],[87,72,73,76,69],[82,69,80,69,65,84],[85,78,84,73,76],[65,71,65,73,78],[68,79],[63,68,79],[76,79,79,80],[43,76,79,79,80],[76,69,65,86,69],[83,34],[69,88,73,84]]
def flagF (s : List UInt8) (i : Nat) : Int:=if i < 12 then 6 else if inB onlyL s = true then 4 else if inB nowL s = true then 1 else if inB bothL s = true then 5 else 0
theorem lit_in (l : List (List UInt8)) (n : Nat) (s : List UInt8) (w : World) (hn : l.length = n) (hl : n ≤ 1000) :
    Calls Tryz.prog 55 #[.slice (some ⟨w.heap.size,0,none⟩) n n,.string (strB s)] (w.alloc (.cells (sts l).toArray 9)) fun e w' => e = .returned (.bool (inB l s)) ∧ Below w.heap.size w w':=by
  subst hn;refine (rin_any (some ⟨w.heap.size,0,none⟩) l.length l.length l s _ (sts_block (one_newN w _ _) (by omega)) (by omega)).mono ?_;rintro e w1 ⟨rfl,b⟩;exact ⟨rfl,below_then (al_one w _) b⟩
theorem rflags_any (s : List UInt8) (i : Nat) (w : World) (hi : i ≤ 1000) :
    Calls Tryz.prog 35 #[.string (strB s),.int .i64 (i : Int)] w fun e w' => e = .returned (.int .i64 (flagF s i)) ∧ Below w.heap.size w w':=by
  obtain ⟨F,hF⟩ : ∃ F,flagF s i = F:=⟨_,rfl⟩;have HF : Hid (F = flagF s i):=hF.symm;rw [hF];clear hF
  by_cases h12 : i < 12
  · have h12' : (i : Int) < 12:=by omega
    have H : Hid (F = 6):=by show _ = _; rw [HF.out]; unfold flagF; rw [if_pos h12]
    clear HF h12;go_enter Tryz.func35,Tryz.ntmps35;(go_wp2_with fail);go_ret;exact ⟨by rw [H.out]; rfl,Below.refl _ _⟩
  · have h12' : decide ((i : Int) < 12) = false:=by simp; omega
    have H0:=zqh h12;clear h12;go_enter Tryz.func35,Tryz.ntmps35;(go_wp2_with (refine wpList_buildStr rfl 8 _ rfl onlyL rfl (by decide) (by decide) (by kernel_rfl) ?_));obtain ⟨F1,e1⟩ : ∃ b,inB onlyL s = b:=⟨_,rfl⟩;have H1:=zqh e1;have HC:=zqh (lit_in onlyL 8 s w rfl (by decide));rw [e1] at HC;clear e1;refine HC.out.mono ?_;rintro e w1 ⟨rfl,bb⟩;have B1:=zqh bb;clear bb HC;cases F1 with
    | true =>
      have H : Hid (F = 4):=by show _ = _; rw [HF.out]; unfold flagF; rw [if_neg H0.out,if_pos H1.out]
      clear HF;(go_wp2_with fail);go_ret;exact ⟨by rw [H.out]; rfl,B1.out⟩
    | false =>
      (go_wp2_with (refine wpList_buildStr rfl 4 _ rfl nowL rfl (by decide) (by decide) (by kernel_rfl) ?_));obtain ⟨F2,e2⟩ : ∃ b,inB nowL s = b:=⟨_,rfl⟩;have H2:=zqh e2;have HC:=zqh (lit_in nowL 4 s w1 rfl (by decide));rw [e2] at HC;clear e2;refine HC.out.mono ?_;rintro e w2 ⟨rfl,bb⟩;have B2:=zqh (below_then B1.out bb);clear bb HC;cases F2 with
      | true =>
        have H : Hid (F = 1):=by show _ = _; rw [HF.out]; unfold flagF; rw [if_neg H0.out,if_neg (by rw [H1.out]; decide),if_pos H2.out]
        clear HF;(go_wp2_with fail);go_ret;exact ⟨by rw [H.out]; rfl,B2.out⟩
      | false =>
        (go_wp2_with (refine wpList_buildStr rfl 22 _ rfl bothL rfl (by decide) (by decide) (by kernel_rfl) ?_));obtain ⟨F3,e3⟩ : ∃ b,inB bothL s = b:=⟨_,rfl⟩;have H3:=zqh e3;have HC:=zqh (lit_in bothL 22 s w2 rfl (by decide));rw [e3] at HC;clear e3;refine HC.out.mono ?_;rintro e w3 ⟨rfl,bb⟩;have B3:=zqh (below_then B2.out bb);clear bb HC;cases F3 with
        | true =>
          have H : Hid (F = 5):=by show _ = _; rw [HF.out]; unfold flagF; rw [if_neg H0.out,if_neg (by rw [H1.out]; decide),if_neg (by rw [H2.out]; decide),if_pos H3.out]
          clear HF;(go_wp2_with fail);go_ret;exact ⟨by rw [H.out]; rfl,B3.out⟩
        | false =>
          have H : Hid (F = 0):=by show _ = _; rw [HF.out]; unfold flagF; rw [if_neg H0.out,if_neg (by rw [H1.out]; decide),if_neg (by rw [H2.out]; decide),if_neg (by rw [H3.out]; decide)]
          clear HF;(go_wp2_with fail);go_ret;exact ⟨by rw [H.out]; rfl,B3.out⟩


def fitsB (m d r w o : Int) : Bool:=decide (2048 ≤ m ∧ m ≤ 65536 ∧ m % 8 = 0 ∧ 1 ≤ d ∧ d ≤ 256 ∧ 1 ≤ r ∧ r ≤ 256 ∧ 200 ≤ w ∧ w ≤ 1024 ∧ 0 ≤ o ∧ o ≤ 65536)
theorem fits_iff (m d r w o : Int) : fitsB m d r w o = true ↔ (2048 ≤ m ∧ m ≤ 65536 ∧ m % 8 = 0 ∧ 1 ≤ d ∧ d ≤ 256 ∧ 1 ≤ r ∧ r ≤ 256 ∧ 200 ≤ w ∧ w ≤ 1024 ∧ 0 ≤ o ∧ o ≤ 65536):=by unfold fitsB; rw [decide_eq_true_eq]
theorem rfits_any (m d r v o : Int) (w : World) : Calls Tryz.prog 32 #[.agg #[.int .i64 m,.int .i64 d,.int .i64 r,.int .i64 v,.int .i64 o]] w fun e w' => e = .returned (.bool (fitsB m d r v o)) ∧ Below w.heap.size w w':=by
  obtain ⟨F,hF⟩ : ∃ F,fitsB m d r v o = F:=⟨_,rfl⟩;have HF:=zqh hF;rw [hF];clear hF;go_enter Tryz.func32,Tryz.ntmps32;go_wp2
  all_goals go_ret
  all_goals refine ⟨ret_bool ?_,al_one _ _⟩
  all_goals rw [← HF.out]
  all_goals unfold fitsB
  all_goals first
    | (show _ = decide _; rw [eq_comm,decide_eq_false_iff_not]; omega)
    | (show decide _ = decide _; rw [decide_eq_decide]; omega)


structure VmL where
  m : PM
  d : List Int
  r : List Int
  f : List Fm
  dict : List Wr
  o : List UInt8
  q : List UInt8
  e : List Rq
  h : List Hn
structure IsVm (w : World) (k : VmK) (L : VmL) : Prop where
  m : IsMem w (.agg #[.slice k.mA k.mn k.mc,.slice k.pA k.pn k.pc]) L.m
  d : Row w k.dA k.dn k.dc L.d
  r : Row w k.rA k.rn k.rc L.r
  f : Fms w (.slice k.fA k.fn k.fc) L.f
  dict : Wds w (.slice k.wA k.wn k.wc) L.dict
  o : Byt w (.slice k.oA k.on k.oc) L.o
  q : Byt w (.slice k.qA k.qn k.qc) L.q
  e : Rqs w (.slice k.eA k.en k.ec) L.e
  h : Hns w (.slice k.hA k.hn k.hc) L.h
theorem IsVm.keep {w w' : World} {k : VmK} {L : VmL} (x : IsVm w k L) (b : Below w.heap.size w w') : IsVm w' k L :=
  ⟨x.m.keep b,x.d.keep b,x.r.keep b,x.f.keep b,x.dict.keep b,x.o.keep b,x.q.keep b,x.e.keep b,x.h.keep b⟩


def nmsL : List (List UInt8):=primL ++ specL
theorem all_len : nmsL.length = 167:=rfl
def nmN (i : Nat) : List UInt8:=nmsL.getD i []
theorem nm_at {i : Nat} (h : i < 167) : nmsL[i]? = some (nmN i):=by
  unfold nmN;rw [List.getD_eq_getElem?_getD,List.getElem?_eq_getElem (by rw [all_len]; exact h)];rfl
def numN (i : Nat) : Nat:=if i < 130 then i else 170 + i
theorem num_lo {i : Nat} (h : i < 130) : numN i = i:=by unfold numN; rw [if_pos h]
theorem num_hi {i : Nat} (h : ¬ i < 130) : numN i = 170 + i:=by unfold numN; rw [if_neg h]
theorem num_le {i : Nat} (h : i < 167) : numN i < 337:=by unfold numN; split <;> omega
def wordN (i : Nat) : Wr:=⟨nmN i,((32 + 8 * i : Nat) : Int),flagF (nmN i) i⟩
def newW (n : Nat) : List Wr:=(List.range n).map wordN
theorem newW_len (n : Nat) : (newW n).length = n:=by unfold newW; simp
theorem newW_succ (n : Nat) : newW (n + 1) = newW n ++ [wordN n]:=by unfold newW; rw [List.range_succ,List.map_append]; rfl
def byteN (n j : Nat) : UInt8 :=
  if j = 0 then 10 else if j = 16 then (if 8 < n then 96 else 0) else if j = 24 then (if 9 < n then 104 else 0)
  else if 32 ≤ j ∧ j < 32 + 8 * n then (if j % 8 = 0 then UInt8.ofNat (numN ((j - 32) / 8) % 256) else if j % 8 = 1 then UInt8.ofNat (numN ((j - 32) / 8) / 256) else 0) else 0
def rowN (L n : Nat) : List UInt8:=(List.range L).map (byteN n)
theorem rowN_len (L n : Nat) : (rowN L n).length = L:=by unfold rowN; simp
theorem rowN_at {L n j : Nat} (h : j < L) : (rowN L n)[j]? = some (byteN n j):=by unfold rowN; simp [h]
theorem rowN_out {L n j : Nat} (h : ¬ j < L) : (rowN L n)[j]? = none:=by unfold rowN; simp [h]
theorem row_zero {L : Nat} (h : 0 < L) : (List.replicate L (0 : UInt8)).set 0 10 = rowN L 0:=by
  apply List.ext_getElem?
  intro j
  by_cases hj : j < L
  · rw [rowN_at hj,List.getElem?_set]
    by_cases h0 : j = 0
    · subst h0; simp [h,byteN]
    · rw [if_neg (by omega),List.getElem?_replicate,if_pos hj]
      unfold byteN;rw [if_neg h0];simp;intro h1 h2;omega
  · rw [rowN_out hj,List.getElem?_eq_none (by simp; omega)]
theorem byte_lo {i : Nat} : byteN (i + 1) (32 + 8 * i) = UInt8.ofNat (numN i % 256):=by
  unfold byteN;rw [if_neg (by omega),if_neg (by omega),if_neg (by omega),if_pos (by omega),if_pos (by omega)]
  congr 2
  congr 1
  omega
theorem byte_hi {i : Nat} : byteN (i + 1) (32 + 8 * i + 1) = UInt8.ofNat (numN i / 256):=by
  unfold byteN;rw [if_neg (by omega),if_neg (by omega),if_neg (by omega),if_pos (by omega),if_neg (by omega),if_pos (by omega)]
  congr 2
  congr 1
  omega
theorem byte_on {i j : Nat} (h0 : j ≠ 32 + 8 * i) (h1 : j ≠ 32 + 8 * i + 1) (h8 : ¬ (i = 8 ∧ j = 16)) (h9 : ¬ (i = 9 ∧ j = 24)) : byteN (i + 1) j = byteN i j:=by
  unfold byteN
  by_cases a : j = 0
  · rw [if_pos a,if_pos a]
  · rw [if_neg a,if_neg a]
    by_cases b : j = 16
    · rw [if_pos b,if_pos b]
      by_cases c : 8 < i
      · rw [if_pos (by omega),if_pos c]
      · rw [if_neg (by omega),if_neg c]
    · rw [if_neg b,if_neg b]
      by_cases b2 : j = 24
      · rw [if_pos b2,if_pos b2]
        by_cases c : 9 < i
        · rw [if_pos (by omega),if_pos c]
        · rw [if_neg (by omega),if_neg c]
      · rw [if_neg b2,if_neg b2]
        by_cases c : 32 ≤ j ∧ j < 32 + 8 * i
        · rw [if_pos (by omega),if_pos c]
        · rw [if_neg c]
          by_cases d : 32 ≤ j ∧ j < 32 + 8 * (i + 1)
          · rw [if_pos d,if_neg (by omega),if_neg (by omega)]
          · rw [if_neg d]
theorem row_step {L i : Nat} (hi : i < 167) (hL : 1400 ≤ L) (h8 : i ≠ 8) (h9 : i ≠ 9) : ((rowN L i).set (32 + 8 * i) (UInt8.ofNat (numN i % 256))).set (32 + 8 * i + 1) (UInt8.ofNat (numN i / 256)) = rowN L (i + 1):=by
  apply List.ext_getElem?
  intro j
  by_cases hj : j < L
  · rw [rowN_at hj,List.getElem?_set,List.getElem?_set,List.length_set,rowN_len]
    by_cases e1 : 32 + 8 * i + 1 = j
    · rw [if_pos e1,if_pos (by omega),← e1,byte_hi]
    · rw [if_neg e1]
      by_cases e0 : 32 + 8 * i = j
      · rw [if_pos e0,if_pos (by omega),← e0,byte_lo]
      · rw [if_neg e0,rowN_at hj,byte_on (by omega) (by omega) (by omega) (by omega)]
  · rw [rowN_out hj,List.getElem?_eq_none (by simp [rowN_len]; omega)]
theorem row_step8 {L : Nat} (hL : 1400 ≤ L) : ((((rowN L 8).set 96 8).set 97 0).set 16 96).set 17 0 = rowN L 9:=by
  apply List.ext_getElem?
  intro j
  by_cases hj : j < L
  · rw [rowN_at hj]
    simp only [List.getElem?_set,List.length_set,rowN_len]
    by_cases e1 : 17 = j
    · rw [if_pos e1,if_pos (by omega),← e1]; rfl
    · rw [if_neg e1]
      by_cases e2 : 16 = j
      · rw [if_pos e2,if_pos (by omega),← e2]; rfl
      · rw [if_neg e2]
        by_cases e3 : 97 = j
        · rw [if_pos e3,if_pos (by omega),← e3]; rfl
        · rw [if_neg e3]
          by_cases e4 : 96 = j
          · rw [if_pos e4,if_pos (by omega),← e4]; rfl
          · rw [if_neg e4,rowN_at hj,byte_on (i:=8) (by omega) (by omega) (by omega) (by omega)]
  · rw [rowN_out hj,List.getElem?_eq_none (by simp [rowN_len]; omega)]
theorem row_step9 {L : Nat} (hL : 1400 ≤ L) : ((((rowN L 9).set 104 9).set 105 0).set 24 104).set 25 0 = rowN L 10:=by
  apply List.ext_getElem?
  intro j
  by_cases hj : j < L
  · rw [rowN_at hj]
    simp only [List.getElem?_set,List.length_set,rowN_len]
    by_cases e1 : 25 = j
    · rw [if_pos e1,if_pos (by omega),← e1]; rfl
    · rw [if_neg e1]
      by_cases e2 : 24 = j
      · rw [if_pos e2,if_pos (by omega),← e2]; rfl
      · rw [if_neg e2]
        by_cases e3 : 105 = j
        · rw [if_pos e3,if_pos (by omega),← e3]; rfl
        · rw [if_neg e3]
          by_cases e4 : 104 = j
          · rw [if_pos e4,if_pos (by omega),← e4]; rfl
          · rw [if_neg e4,rowN_at hj,byte_on (i:=9) (by omega) (by omega) (by omega) (by omega)]
  · rw [rowN_out hj,List.getElem?_eq_none (by simp [rowN_len]; omega)]
def haltS : List UInt8:=[40,104,97,108,116,41]
def caughtS : List UInt8:=[40,99,97,117,103,104,116,41]
theorem nm_halt : ∀ i,i < 167 → i ≠ 8 → nmN i ≠ haltS:=by decide
theorem nm_caught : ∀ i,i < 167 → i ≠ 9 → nmN i ≠ caughtS:=by decide
def Bw (w : World) (g : Nat) (l : List UInt8) : Prop:=w.heap[g]? = some (.cells (u8s l).toArray 5 (0,0))
theorem Bw.lt {w : World} {g : Nat} {l : List UInt8} (h : Bw w g l) : g < w.heap.size:=(Array.getElem?_eq_some_iff.1 h).1
theorem Bw.use {w : World} {g : Nat} {l : List UInt8} (h : Bw w g l) {k : Nat} (hk : k < l.length) : (∃ c : UInt8,w.cell? ⟨g,k,none⟩ = some (.int .u8 (c.toNat : Int))) ∧ w.frozen? ⟨g,k,none⟩ = false:=by
  unfold Bw at h;refine ⟨⟨l[k],?_⟩,by simp [World.frozen?,h]⟩;simp [World.cell?,h,u8s,hk]
theorem Bw.keep {w w' : World} {g : Nat} {l : List UInt8} (h : Bw w g l) (b : Below w.heap.size w w') : Bw w' g l:=(b.block g h.lt).trans h
theorem Bw.set {w : World} {g : Nat} {l : List UInt8} (h : Bw w g l) (k : Nat) (c : UInt8) : Bw (w.setCell ⟨g,k,none⟩ (.int .u8 (c.toNat : Int))) g (l.set k c):=by
  unfold Bw at h ⊢;have h1:=Go.Joins.block_setCell (i:=k) h (.int .u8 (c.toNat : Int));simpa [u8s,List.map_set] using h1
theorem Bw.byt {w : World} {g : Nat} {l : List UInt8} (h : Bw w g l) (hl : l.length ≤ 65536) : Byt w (.slice (some ⟨g,0,none⟩) l.length l.length) l:=byt_block h hl
end Go.Proofs.YtcmldhjicjmmgaaGreatDoor
