/- Part 30. -/
import Derived.Test.YtcmldhjicjmmgaaGreatDoorXkBC
set_option linter.unusedVariables false
set_option linter.unusedSimpArgs false
set_option maxRecDepth 100000
set_option maxHeartbeats 4000000

namespace Go.Proofs.YtcmldhjicjmmgaaGreatDoor
open Go.RowKit


def sqI (j : Nat) : List Int:=(List.range j).map fun (i : Nat) => (i : Int)
theorem sqI_len (j : Nat) : (sqI j).length = j:=by simp [sqI]
theorem sqI_succ (j : Nat) : sqI (j + 1) = sqI j ++ [(j : Int)]:=by simp [sqI,List.range_succ]
def rowsC (i : Nat) : List Int:=(List.range i).flatMap fun (j : Nat) => [40,(j : Int),176,40,(j : Int)]
theorem rowsC_succ (i : Nat) : rowsC (i + 1) = rowsC i ++ [40,(i : Int),176,40,(i : Int)]:=by simp [rowsC,List.range_succ]
theorem rowsC_len (i : Nat) : (rowsC i).length = 5 * i:=by
  induction i with
  | zero => rfl
  | succ i ih => rw [rowsC_succ,List.length_append,ih]; simp; omega
def rowsD (i : Nat) : List Int:=(List.range i).flatMap fun (_ : Nat) => [184,224]
theorem rowsD_succ (i : Nat) : rowsD (i + 1) = rowsD i ++ [184,224]:=by simp [rowsD,List.range_succ]
theorem rowsD_len (i : Nat) : (rowsD i).length = 2 * i:=by
  induction i with
  | zero => rfl
  | succ i ih => rw [rowsD_succ,List.length_append,ih]; simp; omega
def codeC (J : Nat) (n : Int) (t : List Int) : List Int:=rowsC J ++ [40,n,144] ++ t ++ [32]
theorem codeC_len (J : Nat) (n : Int) (t : List Int) : (codeC J n t).length = 5 * J + 3 + t.length + 1:=by simp [codeC,rowsC_len]; omega
theorem code_a (J : Nat) (hJ : J < 5) (n : Int) (t : List Int) (j : Nat) (hj : j < J) : (codeC J n t)[5 * j]? = some 40 ∧ (codeC J n t)[5 * j + 1]? = some (j : Int) ∧ (codeC J n t)[5 * j + 2]? = some 176 ∧ (codeC J n t)[5 * j + 3]? = some 40 ∧ (codeC J n t)[5 * j + 4]? = some (j : Int):=by
  obtain rfl | rfl | rfl | rfl | rfl : J = 0 ∨ J = 1 ∨ J = 2 ∨ J = 3 ∨ J = 4:=by omega
  · omega
  · obtain rfl : j = 0:=by omega
    exact ⟨rfl,rfl,rfl,rfl,rfl⟩
  · obtain rfl | rfl : j = 0 ∨ j = 1:=by omega
    · exact ⟨rfl,rfl,rfl,rfl,rfl⟩
    · exact ⟨rfl,rfl,rfl,rfl,rfl⟩
  · obtain rfl | rfl | rfl : j = 0 ∨ j = 1 ∨ j = 2:=by omega
    · exact ⟨rfl,rfl,rfl,rfl,rfl⟩
    · exact ⟨rfl,rfl,rfl,rfl,rfl⟩
    · exact ⟨rfl,rfl,rfl,rfl,rfl⟩
  · obtain rfl | rfl | rfl | rfl : j = 0 ∨ j = 1 ∨ j = 2 ∨ j = 3:=by omega
    · exact ⟨rfl,rfl,rfl,rfl,rfl⟩
    · exact ⟨rfl,rfl,rfl,rfl,rfl⟩
    · exact ⟨rfl,rfl,rfl,rfl,rfl⟩
    · exact ⟨rfl,rfl,rfl,rfl,rfl⟩
theorem code_b (J : Nat) (hJ : J < 5) (n : Int) (t : List Int) : (codeC J n t)[5 * J]? = some 40 ∧ (codeC J n t)[5 * J + 1]? = some n ∧ (codeC J n t)[5 * J + 2]? = some 144:=by
  obtain rfl | rfl | rfl | rfl | rfl : J = 0 ∨ J = 1 ∨ J = 2 ∨ J = 3 ∨ J = 4:=by omega
  · exact ⟨rfl,rfl,rfl⟩
  · exact ⟨rfl,rfl,rfl⟩
  · exact ⟨rfl,rfl,rfl⟩
  · exact ⟨rfl,rfl,rfl⟩
  · exact ⟨rfl,rfl,rfl⟩
theorem code_c (J : Nat) (hJ : J < 5) (j : Nat) (hj : j < J) : (codeC J 0 (rowsD J))[5 * J + 3 + 2 * j]? = some 184 ∧ (codeC J 0 (rowsD J))[5 * J + 4 + 2 * j]? = some 224:=by
  obtain rfl | rfl | rfl | rfl | rfl : J = 0 ∨ J = 1 ∨ J = 2 ∨ J = 3 ∨ J = 4:=by omega
  · omega
  · obtain rfl : j = 0:=by omega
    exact ⟨rfl,rfl⟩
  · obtain rfl | rfl : j = 0 ∨ j = 1:=by omega
    · exact ⟨rfl,rfl⟩
    · exact ⟨rfl,rfl⟩
  · obtain rfl | rfl | rfl : j = 0 ∨ j = 1 ∨ j = 2:=by omega
    · exact ⟨rfl,rfl⟩
    · exact ⟨rfl,rfl⟩
    · exact ⟨rfl,rfl⟩
  · obtain rfl | rfl | rfl | rfl : j = 0 ∨ j = 1 ∨ j = 2 ∨ j = 3:=by omega
    · exact ⟨rfl,rfl⟩
    · exact ⟨rfl,rfl⟩
    · exact ⟨rfl,rfl⟩
    · exact ⟨rfl,rfl⟩
theorem code_d (J : Nat) (hJ : J < 5) : (codeC J 0 (rowsD J))[5 * J + 3 + 2 * J]? = some 32:=by
  obtain rfl | rfl | rfl | rfl | rfl : J = 0 ∨ J = 1 ∨ J = 2 ∨ J = 3 ∨ J = 4:=by omega
  · rfl
  · rfl
  · rfl
  · rfl
  · rfl
def M9 (J : Nat) (n : Int) (t : List Int) : PM:=laidM B0 1368 (codeC J n t)
def M10 (J : Nat) (n : Int) (t : List Int) : PM:=laidM (M9 J n t) 1800 [40,1368,136,32]
structure CatM (J : Nat) (n : Int) (t : List Int) : Prop where
  J5 : J < 5
  t8 : t.length ≤ 8
  n0 : cellR n
theorem CatM.l9 {J : Nat} {n : Int} {t : List Int} (c : CatM J n t) : (1368 : Int) + 8 + 8 * ((codeC J n t).length : Int) ≤ 1800:=by have:=c.J5; have:=c.t8; rw [codeC_len]; omega
theorem CatM.n9 {J : Nat} {n : Int} {t : List Int} (c : CatM J n t) : NewM (M9 J n t):=new_b0.laid (by decide) (by decide) (Int.le_trans c.l9 (by decide))
theorem CatM.n {J : Nat} {n : Int} {t : List Int} (c : CatM J n t) : NewM (M10 J n t):=c.n9.laid (by decide) (by decide) (by decide)
theorem CatM.at9 {J : Nat} {n : Int} {t : List Int} (c : CatM J n t) {i : Nat} {x : Int} (hi : (codeC J n t)[i]? = some x) (hx : cellR x) : fetchF (M10 J n t) (1376 + 8 * (i : Int)) = x:=by
  have hl : i < (codeC J n t).length:=by
    rcases Nat.lt_or_ge i (codeC J n t).length with h | h
    · exact h
    · rw [List.getElem?_eq_none h] at hi; cases hi
  have h1:=c.l9;show fetchF (laidM (M9 J n t) 1800 [40,1368,136,32]) _ = x;rw [laid_away (by decide) (by decide) (by rw [c.n9.l]; decide) (by omega) (.inl (by omega))];exact new_b0.cell (p:=1368) (l:=codeC J n t) i (by decide) (by decide) (Int.le_trans h1 (by decide)) hi hx
theorem CatM.word {J : Nat} {n : Int} {t : List Int} (c : CatM J n t) {i : Nat} (m : Nat) (hm : m < 130) (hi : (codeC J n t)[i]? = some (32 + 8 * (m : Int))) (h : i ≤ 40) : WordAt (M10 J n t) (1376 + 8 * (i : Int)) (32 + 8 * (m : Int)) (m : Int) :=
  c.n.word m hm (by omega) (by omega) (by omega) (c.at9 hi (by unfold cellR; omega))
theorem CatM.f1 {J : Nat} {n : Int} {t : List Int} (c : CatM J n t) : fetchF (M10 J n t) 1368 = 256:=by
  have h1:=c.l9;show fetchF (laidM (M9 J n t) 1800 [40,1368,136,32]) _ = _;rw [laid_away (by decide) (by decide) (by rw [c.n9.l]; decide) (by decide) (.inl (by decide))];exact new_b0.first (by decide) (by decide) (Int.le_trans h1 (by decide))
theorem CatM.f2 {J : Nat} {n : Int} {t : List Int} (c : CatM J n t) : fetchF (M10 J n t) 1800 = 256:=c.n9.first (by decide) (by decide) (by decide)
theorem CatM.c0 {J : Nat} {n : Int} {t : List Int} (c : CatM J n t) : WordAt (M10 J n t) 1808 40 1:=c.n.word 1 (by decide) (by decide) (by decide) (by decide) (c.n9.cell (p:=1800) (l:=[40,1368,136,32]) 0 (by decide) (by decide) (by decide) rfl (by unfold cellR; decide))
theorem CatM.c1 {J : Nat} {n : Int} {t : List Int} (c : CatM J n t) : fetchF (M10 J n t) 1816 = 1368:=c.n9.cell (p:=1800) (l:=[40,1368,136,32]) 1 (by decide) (by decide) (by decide) rfl (by unfold cellR; decide)
theorem CatM.c2 {J : Nat} {n : Int} {t : List Int} (c : CatM J n t) : WordAt (M10 J n t) 1824 136 13:=c.n.word 13 (by decide) (by decide) (by decide) (by decide) (c.n9.cell (p:=1800) (l:=[40,1368,136,32]) 2 (by decide) (by decide) (by decide) rfl (by unfold cellR; decide))
theorem CatM.c3 {J : Nat} {n : Int} {t : List Int} (c : CatM J n t) : WordAt (M10 J n t) 1832 32 0:=c.n.word 0 (by decide) (by decide) (by decide) (by decide) (c.n9.cell (p:=1800) (l:=[40,1368,136,32]) 3 (by decide) (by decide) (by decide) rfl (by unfold cellR; decide))
theorem CatM.ca {J : Nat} {n : Int} {t : List Int} (c : CatM J n t) : WordAt (M10 J n t) 24 104 9:=c.n.word 9 (by decide) (by decide) (by decide) (by decide) c.n.caught
theorem room_fre : Room32 freK:=⟨rfl,rfl⟩
theorem p_dropf {M : PM} (h : MemOk M) {r : List Int} {l : List Int} {x : Int} {f : List Fm} (hl : l.length ≤ 30) (hc : ∀ y ∈ l ++ [x],cellR y) : PGo 24 freK (stL9F M (l ++ [x]) r f) freK (stL9F M l r f):=by
  have ok : Ok freK (stL9F M (l ++ [x]) r f):=⟨by show 2048 ≤ M.1.length; rw [h.l]; decide,by show M.1.length ≤ _; rw [h.l]; decide,h.p,(by show (l ++ [x]).length ≤ _; simp; omega),hc,Nat.zero_le _,Nat.zero_le _,Nat.zero_le _,Nat.zero_le _,by decide,by decide,by decide,by decide,by decide,by show (1368 : Int) ≤ (M.1.length : Int); rw [h.l]; decide,by show (2048 : Int) = _; rw [h.l]; rfl⟩;have e : doE 24 freK (stL9F M (l ++ [x]) r f) = ⟨0,[],freK,stL9F M l r f⟩:=by
    show shufE (nmP 24) freK (stL9F M (l ++ [x]) r f) = _;rw [show nmP 24 = [68,82,79,80] from by decide +kernel];have hr : resF (kindF [68,82,79,80]) (l ++ [x]) = .out l:=by
      show (if (l ++ [x]).length < 1 then Res.under else .out (leftL (l ++ [x]) ((l ++ [x]).length - 1) [])) = _;rw [if_neg (by simp)];simp [leftL]
    unfold shufE;rw [show (stL9F M (l ++ [x]) r f).d = l ++ [x] from rfl,hr];show (⟨if (32 : Int) < _ then -3 else 0,[],freK,{ stL9F M (l ++ [x]) r f with d:=if (32 : Int) < _ then _ else _ }⟩ : Eff) = _;rw [if_neg (by omega),if_neg (by omega)]
  exact shuf_go (m:=24) (by omega) (by omega) ok (by rw [show ((24 : Nat) : Int) = 24 from rfl,e]) (by rw [show ((24 : Nat) : Int) = 24 from rfl,e]) (by rw [show ((24 : Nat) : Int) = 24 from rfl,e]; exact Sc.refl _)
abbrev fmC (d : List Int) : List Fm:=[⟨(d.length : Int),1,1832⟩]
theorem puts_run (a : Addr) {J : Nat} {n : Int} {t : List Int} (c : CatM J n t) (d : List Int) (hd : d.length ≤ 10) {S' : RS} {cc : Int} : ∀ (k j : Nat),j + k = J → ∀ fu : Int,100 ≤ fu - 3 * k → fu ≤ 1000 → ∀ N,Runs N (srF freK a (M10 J n t) (d ++ sqI J) ([16,24] ++ sqI J) (fmC d) (1376 + 8 * ((5 * J : Nat) : Int)) (fu - 3 * k)) S' cc → Runs (N + 3 * k) (srF freK a (M10 J n t) (d ++ sqI j) ([16,24] ++ sqI j) (fmC d) (1376 + 8 * ((5 * j : Nat) : Int)) fu) S' cc
  | 0,j,h,fu,_,_,N,R => by
    obtain rfl : j = J:=by omega
    rw [show fu - 3 * ((0 : Nat) : Int) = fu by omega] at R;exact R
  | k + 1,j,h,fu,f0,f1,N,R => by
    have j5:=c.J5;obtain ⟨x0,x1,x2,x3,x4⟩:=code_a J c.J5 n t j (by omega);have s0:=f_lit (f:=fmC d) (D:=d ++ sqI j) (R:=[16,24] ++ sqI j) (fu:=fu) (y:=(j : Int)) room_fre a (c.word (i:=5 * j) 1 (by decide) x0 (by omega)) ⟨by omega,by omega⟩ (by rw [show (1376 + 8 * ((5 * j : Nat) : Int) + 8 : Int) = 1376 + 8 * ((5 * j + 1 : Nat) : Int) by omega]; exact c.at9 x1 (by unfold cellR; omega)) (by rw [List.length_append,sqI_len]; omega);have s1:=f_toR (f:=fmC d) (D:=d ++ sqI j) (R:=[16,24] ++ sqI j) (q:=(j : Int)) (fu:=fu - 1) room_fre a (c.word (i:=5 * j + 2) 18 (by decide) x2 (by omega)) ⟨by omega,by omega⟩ (by rw [List.length_append,sqI_len]; omega) (by rw [List.length_append,sqI_len]; simp; omega);have s2:=f_lit (f:=fmC d) (D:=d ++ sqI j) (R:=[16,24] ++ sqI j ++ [(j : Int)]) (fu:=fu - 1 - 1) (y:=(j : Int)) room_fre a (c.word (i:=5 * j + 3) 1 (by decide) x3 (by omega)) ⟨by omega,by omega⟩ (by rw [show (1376 + 8 * ((5 * j + 3 : Nat) : Int) + 8 : Int) = 1376 + 8 * ((5 * j + 4 : Nat) : Int) by omega]; exact c.at9 x4 (by unfold cellR; omega)) (by rw [List.length_append,sqI_len]; omega);have r:=puts_run a c d hd k (j + 1) (by omega) (fu - 1 - 1 - 1) (by omega) (by omega) N (by rw [show fu - 1 - 1 - 1 - 3 * (k : Int) = fu - 3 * ((k + 1 : Nat) : Int) by omega]; exact R);rw [sqI_succ,← List.append_assoc,← List.append_assoc] at r;rw [show (1376 + 8 * ((5 * j : Nat) : Int) + 16 : Int) = 1376 + 8 * ((5 * j + 2 : Nat) : Int) by omega] at s0
    rw [show (1376 + 8 * ((5 * j + 2 : Nat) : Int) + 8 : Int) = 1376 + 8 * ((5 * j + 3 : Nat) : Int) by omega] at s1;rw [show (1376 + 8 * ((5 * j + 3 : Nat) : Int) + 16 : Int) = 1376 + 8 * ((5 * (j + 1) : Nat) : Int) by omega] at s2;rw [show N + 3 * (k + 1) = N + 3 * k + 1 + 1 + 1 by omega];exact .more s0 (show a = a from rfl) (.more s1 (show a = a from rfl) (.more s2 (show a = a from rfl) r))
theorem offs_run (a : Addr) {J : Nat} (c : CatM J 0 (rowsD J)) (d : List Int) (hd : d.length ≤ 10) (hc : ∀ y ∈ d,cellR y) {S' : RS} {cc : Int} : ∀ (k j : Nat),j + k = J → ∀ fu : Int,50 ≤ fu - 2 * k → fu ≤ 1000 → ∀ N,Runs N (srF freK a (M10 J 0 (rowsD J)) (d ++ sqI J) [16,24] (fmC d) (1376 + 8 * ((5 * J + 3 + 2 * J : Nat) : Int)) (fu - 2 * k)) S' cc → Runs (N + 2 * k) (srF freK a (M10 J 0 (rowsD J)) (d ++ sqI J) ([16,24] ++ sqI k) (fmC d) (1376 + 8 * ((5 * J + 3 + 2 * j : Nat) : Int)) fu) S' cc
  | 0,j,h,fu,_,_,N,R => by
    obtain rfl : j = J:=by omega
    rw [show fu - 2 * ((0 : Nat) : Int) = fu by omega] at R;exact R
  | k + 1,j,h,fu,f0,f1,N,R => by
    have j5:=c.J5;obtain ⟨x0,x1⟩:=code_c J c.J5 j (by omega);have hq : ∀ y ∈ d ++ sqI J ++ [(k : Int)],cellR y:=by
      intro y hy;rw [List.append_assoc,List.mem_append] at hy
      rcases hy with hy | hy
      · exact hc y hy
      · rw [List.mem_append] at hy
        rcases hy with hy | hy
        · simp only [sqI,List.mem_map,List.mem_range] at hy
          obtain ⟨i,hi,rfl⟩:=hy;unfold cellR; omega
        · rw [List.mem_singleton] at hy
          subst hy;unfold cellR; omega
    have s0:=f_fromR (f:=fmC d) (D:=d ++ sqI J) (R:=[16,24] ++ sqI k) (q:=(k : Int)) (fu:=fu) room_fre a (c.word (i:=5 * J + 3 + 2 * j) 19 (by decide) x0 (by omega)) ⟨by omega,by omega⟩ (by rw [List.length_append,sqI_len]; omega) (by rw [List.length_append,sqI_len]; simp; omega);have s1:=f_prim (f:=fmC d) (R:=[16,24] ++ sqI k) (fu:=fu - 1) a (c.word (i:=5 * J + 4 + 2 * j) 24 (by decide) x1 (by omega)) ⟨by omega,by omega⟩ (by decide) (p_dropf (f:=fmC d) (l:=d ++ sqI J) (x:=(k : Int)) (r:=[16,24] ++ sqI k) ⟨c.n.l,c.n.p⟩ (by rw [List.length_append,sqI_len]; omega) hq);have r:=offs_run a c d hd hc k (j + 1) (by omega) (fu - 1 - 1) (by omega) (by omega) N (by rw [show fu - 1 - 1 - 2 * (k : Int) = fu - 2 * ((k + 1 : Nat) : Int) by omega]; exact R);rw [show (1376 + 8 * ((5 * J + 3 + 2 * j : Nat) : Int) + 8 : Int) = 1376 + 8 * ((5 * J + 4 + 2 * j : Nat) : Int) by omega] at s0;rw [show (1376 + 8 * ((5 * J + 4 + 2 * j : Nat) : Int) + 8 : Int) = 1376 + 8 * ((5 * J + 3 + 2 * (j + 1) : Nat) : Int) by omega] at s1;rw [sqI_succ,← List.append_assoc,show N + 2 * (k + 1) = N + 2 * k + 1 + 1 by omega];exact .more s0 (show a = a from rfl) (.more s1 (show a = a from rfl) r)
theorem head_run (a : Addr) {J : Nat} {n : Int} {t : List Int} (c : CatM J n t) (d : List Int) (hd : d.length ≤ 10) {S' : RS} {cc : Int} (N : Nat) (R : Runs N (srF freK a (M10 J n t) (d ++ sqI J ++ [n]) ([16,24] ++ sqI J) (fmC d) (1376 + 8 * ((5 * J + 2 : Nat) : Int)) (195 - 3 * J)) S' cc) : ∃ N',Runs N' (srFW freK a (M10 J n t) d [] [] 16 1800 200) S' cc:=by
  have j5:=c.J5;obtain ⟨x0,x1,_⟩:=code_b J c.J5 n t;have l0:=f_lit (f:=fmC d) (D:=d ++ sqI J) (R:=[16,24] ++ sqI J) (fu:=196 - 3 * (J : Int)) (y:=n) room_fre a (c.word (i:=5 * J) 1 (by decide) x0 (by omega)) ⟨by omega,by omega⟩ (by rw [show (1376 + 8 * ((5 * J : Nat) : Int) + 8 : Int) = 1376 + 8 * ((5 * J + 1 : Nat) : Int) by omega]; exact c.at9 x1 c.n0) (by rw [List.length_append,sqI_len]; omega);rw [show (1376 + 8 * ((5 * J : Nat) : Int) + 16 : Int) = 1376 + 8 * ((5 * J + 2 : Nat) : Int) by omega,show 196 - 3 * (J : Int) - 1 = 195 - 3 * (J : Int) by omega] at l0;have r:=puts_run a c d hd (S':=S') (cc:=cc) J 0 (by omega) 196 (by omega) (by decide) (N + 1) (.more l0 (show a = a from rfl) R);have s0 : StepTo (srFW freK a (M10 J n t) d [] [] 16 1800 200) (srF freK a (M10 J n t) d [16] [] 1808 199) false 0:=by
    have h:=fw_col (f:=[]) (D:=d) (R:=[]) (ip:=16) (x:=1800) (fu:=200) room_fre a c.n.l (by decide) (by decide) (by decide) c.f2 ⟨by decide,by decide⟩ (by decide);exact h
  have s1 : StepTo (srF freK a (M10 J n t) d [16] [] 1808 199) (srF freK a (M10 J n t) (d ++ [1368]) [16] [] 1824 198) false 0:=by
    have h:=f_lit (f:=[]) (D:=d) (R:=[16]) (fu:=199) (y:=1368) room_fre a c.c0 ⟨by decide,by decide⟩ c.c1 (by omega);exact h
  have s2 : StepTo (srF freK a (M10 J n t) (d ++ [1368]) [16] [] 1824 198) (srFW freK a (M10 J n t) d [16] (fmC d) 24 1368 197) false 0:=by
    have h:=f_catch (D:=d) (R:=[16]) (fu:=198) (q:=1368) room_fre a c.c2 ⟨by decide,by decide⟩ (by omega) (by decide);exact h
  have s3 : StepTo (srFW freK a (M10 J n t) d [16] (fmC d) 24 1368 197) (srF freK a (M10 J n t) d [16,24] (fmC d) 1376 196) false 0:=by
    have h:=fw_col (f:=fmC d) (D:=d) (R:=[16]) (ip:=24) (x:=1368) (fu:=197) room_fre a c.n.l (by decide) (by decide) (by decide) c.f1 ⟨by decide,by decide⟩ (by decide);exact h
  have r2 : Runs (N + 1 + 3 * J) (srF freK a (M10 J n t) d [16,24] (fmC d) 1376 196) S' cc:=by
    have e1 : d ++ sqI 0 = d:=by show d ++ [] = d; rw [List.append_nil]
    rw [e1] at r;exact r
  exact ⟨_,.more s0 (show a = a from rfl) (.more s1 (show a = a from rfl) (.more s2 (show a = a from rfl) (.more s3 (show a = a from rfl) r2)))⟩
theorem tail_run (a : Addr) {J : Nat} {n : Int} {t : List Int} (c : CatM J n t) (D : List Int) (hD : D.length ≤ 31) (fu : Int) (f0 : 10 ≤ fu) (f1 : fu ≤ 1000) : Runs 2 (srF freK a (M10 J n t) D [16] [] 1832 fu) (srF freK a (M10 J n t) D [] [] 24 (fu - 1 - 1)) 0:=by
  have s0:=f_exit (f:=[]) (D:=D) (R:=[]) (q:=16) (fu:=fu) room_fre a c.c3 ⟨by omega,by omega⟩ (by decide);have s1:=f_halt (K:=freK) (f:=[]) (D:=D) (R:=[]) (fu:=fu - 1) a c.n.halts ⟨by omega,by omega⟩;exact .more s0 (show a = a from rfl) (.last s1 (.inl rfl))
theorem catch_thrown (a : Addr) {J : Nat} {n : Int} {t : List Int} (c : CatM J n t) (d : List Int) (hd : d.length ≤ 10) (hn : (n == 0) = false) : ∃ N fu,Runs N (srFW freK a (M10 J n t) d [] [] 16 1800 200) (srF freK a (M10 J n t) (d ++ [n]) [] [] 24 fu) 0:=by
  have j5:=c.J5;obtain ⟨_,_,x2⟩:=code_b J c.J5 n t;have s0:=f_throw (D:=d ++ sqI J) (R:=[16,24] ++ sqI J) (d:=d.length) (r:=1) (i:=1832) (q:=n) (fu:=195 - 3 * (J : Int)) room_fre a (c.word (i:=5 * J + 2) 14 (by decide) x2 (by omega)) ⟨by omega,by omega⟩ hn (by rw [List.length_append,sqI_len]; omega) (by rw [List.length_append]; omega) (by rw [List.length_append]; simp; omega) (by rw [List.length_append,sqI_len]; simp; omega);rw [List.take_append_of_le_length (Nat.le_refl _),List.take_length,show ([16,24] ++ sqI J : List Int).take 1 = [16] from rfl] at s0;have r:=tail_run a c (d ++ [n]) (by simp; omega) (195 - 3 * (J : Int) - 1) (by omega) (by omega);obtain ⟨N',R⟩:=head_run a c d hd _ (.more s0 (show a = a from rfl) r);exact ⟨N',_,R⟩
theorem catch_none (a : Addr) {J : Nat} (c : CatM J 0 (rowsD J)) (d : List Int) (hd : d.length ≤ 10) (hc : ∀ y ∈ d,cellR y) : ∃ N fu,Runs N (srFW freK a (M10 J 0 (rowsD J)) d [] [] 16 1800 200) (srF freK a (M10 J 0 (rowsD J)) (d ++ sqI J ++ [0]) [] [] 24 fu) 0:=by
  have j5:=c.J5;obtain ⟨_,_,x2⟩:=code_b J c.J5 0 (rowsD J);have s0:=f_throw0 (f:=fmC d) (D:=d ++ sqI J) (R:=[16,24] ++ sqI J) (fu:=195 - 3 * (J : Int)) room_fre a (c.word (i:=5 * J + 2) 14 (by decide) x2 (by omega)) ⟨by omega,by omega⟩ (by rw [List.length_append,sqI_len]; omega);rw [show (1376 + 8 * ((5 * J + 2 : Nat) : Int) + 8 : Int) = 1376 + 8 * ((5 * J + 3 + 2 * 0 : Nat) : Int) by omega] at s0;have e0:=f_exit (f:=fmC d) (D:=d ++ sqI J) (R:=[16]) (q:=24) (fu:=194 - 3 * (J : Int) - 2 * (J : Int)) room_fre a (c.word (i:=5 * J + 3 + 2 * J) 0 (by decide) (code_d J c.J5) (by omega)) ⟨by omega,by omega⟩ (by decide);have e1:=f_caught (D:=d ++ sqI J) (R:=[16]) (d:=(d.length : Int)) (r:=1) (i:=1832) (fu:=194 - 3 * (J : Int) - 2 * (J : Int) - 1) room_fre a c.ca ⟨by omega,by omega⟩ (by rw [List.length_append,sqI_len]; omega);have r:=tail_run a c (d ++ sqI J ++ [0]) (by rw [List.length_append,List.length_append,sqI_len]; simp; omega) (194 - 3 * (J : Int) - 2 * (J : Int) - 1 - 1) (by omega) (by omega);have r2:=offs_run a c d hd hc J 0 (by omega) (194 - 3 * (J : Int)) (by omega) (by omega) _ (.more e0 (show a = a from rfl) (.more e1 (show a = a from rfl) r));obtain ⟨N',R⟩:=head_run a c d hd _ (.more s0 (show a = a from rfl) (by rw [show 195 - 3 * (J : Int) - 1 = 194 - 3 * (J : Int) by omega]; exact r2));exact ⟨N',_,R⟩
theorem run_srF {n : Nat} {a : Addr} {K : VmK} {M : PM} {d D : List Int} {ip x fu fu' c : Int} (HR : Runs n (srFW K a M d [] [] 16 x fu) (srF K a M D [] [] ip fu') c) {k : VmK} (w : World) (hf : 0 ≤ fu) (h : IsVm w k (stL9 M d [])) (s : Sc k K) (g : Glob a w) :
    Calls Tryz.prog 11 #[vmV k,.int .i64 x,.int .i64 fu] w fun e w' => ∃ j,e = .returned (.tuple #[vmV j,.int .i64 fu',.int .i64 c]) ∧ IsVm w' j (stL9 M D []) ∧ Sc j K ∧ Below w.heap.size w w' :=
  run_any n w hf h s g HR
end Go.Proofs.YtcmldhjicjmmgaaGreatDoor
