/- Part 6. -/
import Derived.Test.YtcmldhjicjmmgaaGreatDoorXkAE
import Derived.Laws.Tables
set_option linter.unusedVariables false
set_option linter.unusedSimpArgs false
set_option maxRecDepth 100000
set_option maxHeartbeats 4000000

namespace Go.Proofs.YtcmldhjicjmmgaaGreatDoor
open Go.RowKit


def pushL (l : List Int) (x limit : Int) : List Int:=if limit ≤ (l.length : Int) then l else l ++ [x]
def pushC (l : List Int) (limit : Int) : Int:=if limit ≤ (l.length : Int) then -3 else 0
def popX (l : List Int) : Int:=l.getD (l.length - 1) 0
def popL (l : List Int) : List Int:=l.take (l.length - 1)
def popC (l : List Int) : Int:=if l.length = 0 then -4 else 0
theorem pop_some {l : List Int} {k : Nat} (h : l.length = k + 1) : popX l = l.getD k 0 ∧ popL l = l.take k ∧ popC l = 0:=by
  unfold popX popL popC;rw [h];exact ⟨rfl,rfl,rfl⟩
theorem pop_at (A : Option Addr) (n c : Nat) (l : List Int) (w : World) (hn : n ≤ 65536) (HR : Hid (Row w A n c l)) :
    Calls Tryz.prog 259 #[.slice A n c] w fun e w' => ∃ B m d,e = .returned (.tuple #[.int .i64 (popX l),.slice B m d,.int .i64 (popC l)]) ∧ Row w' B m d (popL l) ∧ Below w.heap.size w w':=by
  have hl:=HR.out.1;have hc:=HR.out.2.1;have hm:=HR.out.2.2.1;cases n with
  | zero =>
    obtain rfl : l = []:=List.eq_nil_of_length_eq_zero hl;clear hl;go_enter Tryz.func259,Tryz.ntmps259;go_wp2
    go_ret3
    exact ⟨_,_,_,rfl,row_nil _,Below.refl _ _⟩
  | succ k =>
    obtain ⟨h1,h2,h3⟩:=pop_some hl;rw [h1,h3];obtain ⟨g,o,rfl,hg,hce⟩:=HR.out.cells (by omega);have k0:=hce k (by omega);obtain ⟨y,hy⟩ : ∃ y,l.getD k 0 = y:=⟨_,rfl⟩;rw [hy] at k0 ⊢;have H2:=zqh h2;have HT:=zqh (HR.out.high (k:=k) (by omega));have hkc : (k : Int) ≤ (c : Int):=by omega
    have hk1 : (k : Int) < (k : Int) + 1:=by omega
    unfold maxLen at hm;clear h1 h2 h3 hce hy hl hc;go_enter Tryz.func259,Tryz.ntmps259;have S0 : (w.cell? ⟨g,o + k,none⟩ = some (.int .i64 y) ∧ Since w w):=⟨k0,Below.refl _ _⟩;have SD : Hid (∀ a,(a.cell? ⟨g,o + k,none⟩ = some (.int .i64 y) ∧ Since w a) → (a.drew.cell? ⟨g,o + k,none⟩ = some (.int .i64 y) ∧ Since w a.drew)):=zqh fun a h => ⟨h.1,h.2.drew⟩
    have SK : Hid (∀ a b,(a.cell? ⟨g,o + k,none⟩ = some (.int .i64 y) ∧ Since w a) → Below a.heap.size a b → (b.cell? ⟨g,o + k,none⟩ = some (.int .i64 y) ∧ Since w b)):=zqh fun a b h kb => ⟨(h.2.then kb).cell hg k0,h.2.then kb⟩
    have HS0:=zqh S0;clear S0 k0;(go_wp2_with fail);refine wp_region_noPanic ?_
    go_region_held3 (fun a => a.cell? ⟨g,o + k,none⟩ = some (.int .i64 y) ∧ Since w a) (first | assumption | exact SD.out _ HS0.out)
      (first | (go_at_call 86; have s4 : (_ ∧ Since w _):=(by assumption); ((with_reducible refine (own_any _ _ _ (l.take k) _ (by omega) (zqh (HT.out.keep s4.2.bel))).mono ?_); rintro e w5 ⟨g5,rfl,ho,b5⟩; have s5:=SK.out _ _ s4 b5; have HO:=zqh ho; clear ho s4)))
    all_goals (refine NoPanic.normal ?_)
    all_goals go_wp2
    all_goals go_ret3
    all_goals
      obtain ⟨B,d,e,hr⟩:=HO.out.row;injection e with e1 e2 e3
      subst e1 e3;exact ⟨_,_,_,rfl,by rw [H2.out]; exact hr,s5.2⟩
def sameB (a b : List Int) : Bool:=decide (a = b)
theorem sameB_of {a b : List Int} (h : a = b) : sameB a b = true:=by simp [sameB,h]
theorem sameB_len {a b : List Int} (h : a.length ≠ b.length) : sameB a b = false:=by
  simp only [sameB,decide_eq_false_iff_not];intro e;exact h (by rw [e])
theorem take_ne {a b : List Int} {k : Nat} (h : a.getD k 0 ≠ b.getD k 0) : sameB a b = false:=by
  simp only [sameB,decide_eq_false_iff_not];intro e;exact h (by rw [e])
theorem take_all {a b : List Int} {n : Nat} (ha : a.length = n) (hb : b.length = n) (h : ∀ j,j < n → a.getD j 0 = b.getD j 0) : sameB a b = true:=by
  refine sameB_of (List.ext_getElem (by omega) fun j h1 h2 => ?_);have:=h j (by omega);simpa [List.getD,h1,h2] using this
theorem same_eq (A B : Option Addr) (n c d : Nat) (l r : List Int) (w : World) (hn : n ≤ 65536) (HL : Hid (Row w A n c l)) (HR : Hid (Row w B n d r)) :
    Calls Tryz.prog 12 #[.slice A n c,.slice B n d] w fun e w' => e = .returned (.bool (sameB l r)) ∧ Below w.heap.size w w':=by
  have HA : Hid (l.length = n):=HL.out.1;have HB : Hid (r.length = n):=HR.out.1;go_enter Tryz.func12,Tryz.ntmps12;go_wp2
  go_loopw [5] (fun i wr => ∃ k : Nat,k ≤ n ∧ i = .int .i64 (k : Int) ∧ Hid (∀ j,j < k → l.getD j 0 = r.getD j 0) ∧ Below w.heap.size w wr) (fun i _ => n - (intOf i).toNat)
  case atStart => exact ⟨0,by omega,rfl,zqh (fun j hj => by omega),Below.refl _ _⟩
  case round =>
    obtain ⟨k,hk,rfl,HJ,hb⟩:=hrel
    by_cases hlt : k < n
    · obtain ⟨g,o,rfl,hg,hc1⟩:=HL.out.cells (by omega)
      obtain ⟨g2,o2,rfl,hg2,hc2⟩:=HR.out.cells (by omega);obtain ⟨x,hx⟩ : ∃ x,l.getD k 0 = x:=⟨_,rfl⟩;obtain ⟨y,hy⟩ : ∃ y,r.getD k 0 = y:=⟨_,rfl⟩;have k1:=(hb.cell (p:=⟨g,o + k,none⟩) hg).trans (hc1 k hlt);have k2:=(hb.cell (p:=⟨g2,o2 + k,none⟩) hg2).trans (hc2 k hlt);rw [hx] at k1;rw [hy] at k2;have hlt' : (k : Int) < (n : Int):=by omega
      have H1:=zqh hx;have H2:=zqh hy;have H3:=zqh hb;clear hx hy hc1 hc2 hb
      by_cases he : x = y
      · have hne : (x != y) = false:=by simp [he]
        have HE:=zqh he;clear he;(go_wp2_with fail)
        go_quiet (fail)
        go_wp2
        go_roundw
        case rel => exact ⟨k + 1,by omega,by go_num,zqh (fun j hj => by
          by_cases hjk : j = k
          · subst hjk; rw [H1.out,H2.out,HE.out]
          · exact HJ.out j (by omega)),H3.out.trans (Go.Joins.below_draws _ _ _)⟩
        case measure => simp [intOf]; omega
      · have hne : (x != y) = true:=by simp [he]
        have HE : Hid (sameB l r = false):=take_ne (k:=k) (by rw [H1.out,H2.out]; exact he);clear he;(go_wp2_with fail)
        go_quiet (fail)
        go_wp2;go_ret;exact ⟨ret_boolS HE.out.symm,H3.out.trans (Go.Joins.below_draws _ _ _)⟩
    · have hkn : decide (k < n) = false:=by simp; omega
      have HE : Hid (sameB l r = true):=take_all HA.out HB.out (fun j hj => HJ.out j (by omega));go_wp2;go_ret;exact ⟨ret_boolS HE.out.symm,hb⟩
theorem same_atS (A B : Option Addr) (n c m d : Nat) (l r : List Int) (w : World) (hn : n ≤ 65536) (hm : m ≤ 65536) (HL : Hid (Row w A n c l)) (HR : Hid (Row w B m d r)) :
    Calls Tryz.prog 12 #[.slice A n c,.slice B m d] w fun e w' => e = .returned (.bool (sameB l r)) ∧ Below w.heap.size w w':=by
  by_cases h : n = m
  · subst h
    exact same_eq A B n c d l r w hn HL HR
  · have HE : Hid (sameB l r = false):=sameB_len (by rw [HL.out.1,HR.out.1]; exact h)
    have h' : ((n : Int) != (m : Int)) = true:=by simp; omega
    clear h;go_enter Tryz.func12,Tryz.ntmps12;go_wp2;go_ret;exact ⟨ret_boolS HE.out.symm,Below.refl _ _⟩


def From (w : World) (A : Option Addr) (n c : Nat) (B : Option Addr) (m d : Nat) : Prop:=(B = A ∧ m = n ∧ d = c) ∨ ∀ b,B = some b → w.heap.size ≤ b.block
theorem from_refl (w : World) (A : Option Addr) (n c : Nat) : From w A n c A n c:=.inl ⟨rfl,rfl,rfl⟩
theorem from_none (w : World) (A : Option Addr) (n c m d : Nat) : From w A n c none m d:=.inr fun b e => by cases e
theorem from_own {w w' : World} {A B : Option Addr} {n' c base n m d : Nat} {v : Value} {l : List Int} (h : Owns w' base v n l) (hb : w.heap.size ≤ base) (e : v = .slice B m d) : From w A n' c B m d:=by
  refine .inr fun b eb => ?_
  subst eb;subst e;exact Nat.le_trans hb (own_fromS h b.block rfl)
theorem Row.from {w w1 w2 : World} {A B : Option Addr} {n c m d : Nat} {l l' : List Int} (h : Row w A n c l) (h1 : Row w1 B m d l') {W : World} (hf : From W A n c B m d) (hw : w.heap.size ≤ W.heap.size) (hz : w1.heap.size ≤ w2.heap.size)
    (hs : ∀ g,g < w.heap.size ∨ W.heap.size ≤ g → g < w1.heap.size → w2.heap[g]? = w1.heap[g]?) : Row w2 B m d l':=by
  obtain ⟨q1,q2,q3,q4⟩:=h1;refine ⟨q1,q2,q3,?_⟩
  rcases q4 with q4 | ⟨g,o,e,hg,hc⟩
  · exact .inl q4
  · by_cases h0 : ints l' = []
    · exact .inl h0
    · have hgg : g < w.heap.size ∨ W.heap.size ≤ g:=by
        rcases hf with ⟨f1,f2,f3⟩ | hf
        · subst f1 f2
          have hl : l.length = l'.length:=by rw [h.1,q1]
          rcases h.2.2.2 with h4 | ⟨g',o',e',hg',_⟩
          · have:=congrArg List.length h4
            rw [ints_len] at this;have hz : l.length = 0:=this;exact absurd (by rw [List.eq_nil_of_length_eq_zero (by omega : l'.length = 0)]; rfl) h0
          · rw [e] at e'
            injection e' with e'
            injection e' with e1
            subst e1;exact .inl hg'
        · exact .inr (hf _ e)
      refine .inr ⟨g,o,e,by omega,fun j v hv => ?_⟩;have:=hc j v hv;unfold World.cell? at this ⊢;rw [hs g hgg hg];exact this
theorem pushF_at (A : Option Addr) (n c : Nat) (x limit : Int) (l : List Int) (w : World) (hn : n ≤ 65536) (HR : Hid (Row w A n c l)) :
    Calls Tryz.prog 64 #[.slice A n c,.int .i64 x,.int .i64 limit] w fun e w' => ∃ B m d,e = .returned (.tuple #[.slice B m d,.int .i64 (pushC l limit)]) ∧ Row w' B m d (pushL l x limit) ∧ From w A n c B m d ∧ Below w.heap.size w w':=by
  have hl:=HR.out.1
  by_cases h : limit ≤ (n : Int)
  · have H1 : Hid (pushC l limit = -3):=if_pos (by rw [hl]; exact h)
    have H2 : Hid (pushL l x limit = l):=if_pos (by rw [hl]; exact h);rw [H1.out];clear hl;go_enter Tryz.func64,Tryz.ntmps64;(go_wp2_with fail);refine (own_any _ _ _ l _ hn HR).mono ?_;rintro e w1 ⟨g,rfl,ho,b1⟩;have HO:=zqh ho;clear ho;(go_wp2_with fail);go_ret2;obtain ⟨B,d,e,hr⟩:=HO.out.row;injection e with e1 e2 e3
    subst e1 e3;exact ⟨_,_,_,rfl,by rw [H2.out]; exact hr,from_own HO.out (Nat.le_refl _) rfl,b1⟩
  · have H1 : Hid (pushC l limit = 0):=if_neg (by rw [hl]; exact h)
    have H2 : Hid (pushL l x limit = l ++ [x]):=if_neg (by rw [hl]; exact h);rw [H1.out];have h' : decide (limit ≤ (n : Int)) = false:=by simp; omega
    clear hl h;go_enter Tryz.func64,Tryz.ntmps64;(go_wp2_with fail);refine (with_anyS _ _ _ x l _ hn HR).mono ?_;rintro e w1 ⟨g,rfl,ho,b1⟩;have HO:=zqh ho;clear ho;(go_wp2_with fail);go_ret2;obtain ⟨B,d,e,hr⟩:=HO.out.row;injection e with e1 e2 e3
    subst e1 e3;exact ⟨_,_,_,rfl,by rw [H2.out]; exact hr,from_own HO.out (Nat.le_refl _) rfl,b1⟩
theorem popF_at (A : Option Addr) (n c : Nat) (l : List Int) (w : World) (hn : n ≤ 65536) (HR : Hid (Row w A n c l)) :
    Calls Tryz.prog 259 #[.slice A n c] w fun e w' => ∃ B m d,e = .returned (.tuple #[.int .i64 (popX l),.slice B m d,.int .i64 (popC l)]) ∧ Row w' B m d (popL l) ∧ From w A n c B m d ∧ Below w.heap.size w w':=by
  have hl:=HR.out.1;have hc:=HR.out.2.1;have hm:=HR.out.2.2.1;cases n with
  | zero =>
    obtain rfl : l = []:=List.eq_nil_of_length_eq_zero hl;clear hl;go_enter Tryz.func259,Tryz.ntmps259;go_wp2
    go_ret3
    exact ⟨_,_,_,rfl,row_nil _,from_none _ _ _ _ _ _,Below.refl _ _⟩
  | succ k =>
    obtain ⟨h1,h2,h3⟩:=pop_some hl;rw [h1,h3];obtain ⟨g,o,rfl,hg,hce⟩:=HR.out.cells (by omega);have k0:=hce k (by omega);obtain ⟨y,hy⟩ : ∃ y,l.getD k 0 = y:=⟨_,rfl⟩;rw [hy] at k0 ⊢;have H2:=zqh h2;have HT:=zqh (HR.out.high (k:=k) (by omega));have hkc : (k : Int) ≤ (c : Int):=by omega
    have hk1 : (k : Int) < (k : Int) + 1:=by omega
    unfold maxLen at hm;clear h1 h2 h3 hce hy hl hc;go_enter Tryz.func259,Tryz.ntmps259;have S0 : (w.cell? ⟨g,o + k,none⟩ = some (.int .i64 y) ∧ Since w w):=⟨k0,Below.refl _ _⟩;have SD : Hid (∀ a,(a.cell? ⟨g,o + k,none⟩ = some (.int .i64 y) ∧ Since w a) → (a.drew.cell? ⟨g,o + k,none⟩ = some (.int .i64 y) ∧ Since w a.drew)):=zqh fun a h => ⟨h.1,h.2.drew⟩
    have SK : Hid (∀ a b,(a.cell? ⟨g,o + k,none⟩ = some (.int .i64 y) ∧ Since w a) → Below a.heap.size a b → (b.cell? ⟨g,o + k,none⟩ = some (.int .i64 y) ∧ Since w b)):=zqh fun a b h kb => ⟨(h.2.then kb).cell hg k0,h.2.then kb⟩
    have HS0:=zqh S0;clear S0 k0;(go_wp2_with fail);refine wp_region_noPanic ?_
    go_region_held3 (fun a => a.cell? ⟨g,o + k,none⟩ = some (.int .i64 y) ∧ Since w a) (first | assumption | exact SD.out _ HS0.out)
      (first | (go_at_call 86; have s4 : (_ ∧ Since w _):=(by assumption); ((with_reducible refine (own_any _ _ _ (l.take k) _ (by omega) (zqh (HT.out.keep s4.2.bel))).mono ?_); rintro e w5 ⟨g5,rfl,ho,b5⟩; have s5:=SK.out _ _ s4 b5; have HO:=zqh ho; clear ho s4)))
    all_goals (refine NoPanic.normal ?_)
    all_goals go_wp2
    all_goals go_ret3
    all_goals
      obtain ⟨B,d,e,hr⟩:=HO.out.row;injection e with e1 e2 e3
      subst e1 e3;exact ⟨_,_,_,rfl,by rw [H2.out]; exact hr,from_own HO.out (Nat.le_refl _) rfl,s5.2⟩


structure VmK where
  cm : Int
  cd : Int
  cr : Int
  cw : Int
  co : Int
  mA : Option Addr
  mn : Nat
  mc : Nat
  pA : Option Addr
  pn : Nat
  pc : Nat
  here : Int
  dA : Option Addr
  dn : Nat
  dc : Nat
  rA : Option Addr
  rn : Nat
  rc : Nat
  fA : Option Addr
  fn : Nat
  fc : Nat
  wA : Option Addr
  wn : Nat
  wc : Nat
  last : Int
  oA : Option Addr
  on : Nat
  oc : Nat
  qA : Option Addr
  qn : Nat
  qc : Nat
  qo : Bool
  eA : Option Addr
  en : Nat
  ec : Nat
  free : Int
  next : Int
  arg : Int
  self : Int
  now : Int
  hA : Option Addr
  hn : Nat
  hc : Nat
abbrev vmV (k : VmK) : Value:=.agg #[.int .i64 k.cm,.int .i64 k.cd,.int .i64 k.cr,.int .i64 k.cw,.int .i64 k.co,.slice k.mA k.mn k.mc,.slice k.pA k.pn k.pc,.int .i64 k.here,.slice k.dA k.dn k.dc,.slice k.rA k.rn k.rc,.slice k.fA k.fn k.fc,.slice k.wA k.wn k.wc,.int .i64 k.last,.slice k.oA k.on k.oc,.slice k.qA k.qn k.qc,.bool k.qo,.slice k.eA k.en k.ec,.int .i64 k.free,.int .i64 k.next,.int .i64 k.arg,.int .i64 k.self,.int .i64 k.now,.slice k.hA k.hn k.hc]
def vm0 : VmK:={ cm:=0,cd:=0,cr:=0,cw:=0,co:=0,mA:=none,mn:=0,mc:=0,pA:=none,pn:=0,pc:=0,here:=0,dA:=none,dn:=0,dc:=0,rA:=none,rn:=0,rc:=0,fA:=none,fn:=0,fc:=0,wA:=none,wn:=0,wc:=0,last:=0,oA:=none,on:=0,oc:=0,qA:=none,qn:=0,qc:=0,qo:=false,eA:=none,en:=0,ec:=0,free:=0,next:=0,arg:=0,self:=0,now:=0,hA:=none,hn:=0,hc:=0 }
def VBox (w : World) (b : Nat) (k : VmK) : Prop:=w.heap[b]? = some (.cells #[.int .i64 k.cm,.int .i64 k.cd,.int .i64 k.cr,.int .i64 k.cw,.int .i64 k.co,.slice k.mA k.mn k.mc,.slice k.pA k.pn k.pc,.int .i64 k.here,.slice k.dA k.dn k.dc,.slice k.rA k.rn k.rc,.slice k.fA k.fn k.fc,.slice k.wA k.wn k.wc,.int .i64 k.last,.slice k.oA k.on k.oc,.slice k.qA k.qn k.qc,.bool k.qo,.slice k.eA k.en k.ec,.int .i64 k.free,.int .i64 k.next,.int .i64 k.arg,.int .i64 k.self,.int .i64 k.now,.slice k.hA k.hn k.hc] 37 (0,0))
theorem VBox.lt {w : World} {b : Nat} {k : VmK} (h : VBox w b k) : b < w.heap.size:=(Array.getElem?_eq_some_iff.1 h).1
theorem VBox.keep {w w' : World} {b : Nat} {k : VmK} (h : VBox w b k) (x : Below w.heap.size w w') : VBox w' b k:=(x.block b h.lt).trans h
theorem VBox.use {w : World} {b : Nat} {k : VmK} (h : VBox w b k) : w.cell? ⟨b,0,none⟩ = some (.int .i64 k.cm) ∧ w.cell? ⟨b,1,none⟩ = some (.int .i64 k.cd) ∧ w.cell? ⟨b,2,none⟩ = some (.int .i64 k.cr) ∧ w.cell? ⟨b,3,none⟩ = some (.int .i64 k.cw) ∧ w.cell? ⟨b,4,none⟩ = some (.int .i64 k.co) ∧ w.cell? ⟨b,5,none⟩ = some (.slice k.mA k.mn k.mc) ∧ w.cell? ⟨b,6,none⟩ = some (.slice k.pA k.pn k.pc) ∧ w.cell? ⟨b,7,none⟩ = some (.int .i64 k.here) ∧ w.cell? ⟨b,8,none⟩ = some (.slice k.dA k.dn k.dc) ∧ w.cell? ⟨b,9,none⟩ = some (.slice k.rA k.rn k.rc) ∧ w.cell? ⟨b,10,none⟩ = some (.slice k.fA k.fn k.fc) ∧ w.cell? ⟨b,11,none⟩ = some (.slice k.wA k.wn k.wc) ∧ w.cell? ⟨b,12,none⟩ = some (.int .i64 k.last) ∧ w.cell? ⟨b,13,none⟩ = some (.slice k.oA k.on k.oc) ∧ w.cell? ⟨b,14,none⟩ = some (.slice k.qA k.qn k.qc) ∧ w.cell? ⟨b,15,none⟩ = some (.bool k.qo) ∧ w.cell? ⟨b,16,none⟩ = some (.slice k.eA k.en k.ec) ∧ w.cell? ⟨b,17,none⟩ = some (.int .i64 k.free) ∧ w.cell? ⟨b,18,none⟩ = some (.int .i64 k.next) ∧ w.cell? ⟨b,19,none⟩ = some (.int .i64 k.arg) ∧ w.cell? ⟨b,20,none⟩ = some (.int .i64 k.self) ∧ w.cell? ⟨b,21,none⟩ = some (.int .i64 k.now) ∧ w.cell? ⟨b,22,none⟩ = some (.slice k.hA k.hn k.hc):=by
  unfold VBox at h;refine ⟨?_,?_,?_,?_,?_,?_,?_,?_,?_,?_,?_,?_,?_,?_,?_,?_,?_,?_,?_,?_,?_,?_,?_⟩ <;> simp [World.cell?,h]
theorem VBox.free {w : World} {b : Nat} {k : VmK} (h : VBox w b k) : w.frozen? ⟨b,0,none⟩ = false ∧ w.frozen? ⟨b,1,none⟩ = false ∧ w.frozen? ⟨b,2,none⟩ = false ∧ w.frozen? ⟨b,3,none⟩ = false ∧ w.frozen? ⟨b,4,none⟩ = false ∧ w.frozen? ⟨b,5,none⟩ = false ∧ w.frozen? ⟨b,6,none⟩ = false ∧ w.frozen? ⟨b,7,none⟩ = false ∧ w.frozen? ⟨b,8,none⟩ = false ∧ w.frozen? ⟨b,9,none⟩ = false ∧ w.frozen? ⟨b,10,none⟩ = false ∧ w.frozen? ⟨b,11,none⟩ = false ∧ w.frozen? ⟨b,12,none⟩ = false ∧ w.frozen? ⟨b,13,none⟩ = false ∧ w.frozen? ⟨b,14,none⟩ = false ∧ w.frozen? ⟨b,15,none⟩ = false ∧ w.frozen? ⟨b,16,none⟩ = false ∧ w.frozen? ⟨b,17,none⟩ = false ∧ w.frozen? ⟨b,18,none⟩ = false ∧ w.frozen? ⟨b,19,none⟩ = false ∧ w.frozen? ⟨b,20,none⟩ = false ∧ w.frozen? ⟨b,21,none⟩ = false ∧ w.frozen? ⟨b,22,none⟩ = false:=by
  unfold VBox at h;refine ⟨?_,?_,?_,?_,?_,?_,?_,?_,?_,?_,?_,?_,?_,?_,?_,?_,?_,?_,?_,?_,?_,?_,?_⟩ <;> simp [World.frozen?,h]
theorem vbox_new (w : World) (k : VmK) : VBox (w.alloc (.cells #[.int .i64 k.cm,.int .i64 k.cd,.int .i64 k.cr,.int .i64 k.cw,.int .i64 k.co,.slice k.mA k.mn k.mc,.slice k.pA k.pn k.pc,.int .i64 k.here,.slice k.dA k.dn k.dc,.slice k.rA k.rn k.rc,.slice k.fA k.fn k.fc,.slice k.wA k.wn k.wc,.int .i64 k.last,.slice k.oA k.on k.oc,.slice k.qA k.qn k.qc,.bool k.qo,.slice k.eA k.en k.ec,.int .i64 k.free,.int .i64 k.next,.int .i64 k.arg,.int .i64 k.self,.int .i64 k.now,.slice k.hA k.hn k.hc] 37)) w.heap.size k:=one_newN w _ _
theorem vbox_zero (w : World) : VBox (w.alloc (.cells #[.int .i64 0,.int .i64 0,.int .i64 0,.int .i64 0,.int .i64 0,.slice none 0 0,.slice none 0 0,.int .i64 0,.slice none 0 0,.slice none 0 0,.slice none 0 0,.slice none 0 0,.int .i64 0,.slice none 0 0,.slice none 0 0,.bool false,.slice none 0 0,.int .i64 0,.int .i64 0,.int .i64 0,.int .i64 0,.int .i64 0,.slice none 0 0] 37)) w.heap.size vm0:=one_newN w _ _
theorem VBox.put {w : World} {b : Nat} {j : VmK} (h : VBox w b j) (k : VmK) : VBox (((((((((((((((((((((((w.setCell ⟨b,0,none⟩ (.int .i64 k.cm)).setCell ⟨b,1,none⟩ (.int .i64 k.cd)).setCell ⟨b,2,none⟩ (.int .i64 k.cr)).setCell ⟨b,3,none⟩ (.int .i64 k.cw)).setCell ⟨b,4,none⟩ (.int .i64 k.co)).setCell ⟨b,5,none⟩ (.slice k.mA k.mn k.mc)).setCell ⟨b,6,none⟩ (.slice k.pA k.pn k.pc)).setCell ⟨b,7,none⟩ (.int .i64 k.here)).setCell ⟨b,8,none⟩ (.slice k.dA k.dn k.dc)).setCell ⟨b,9,none⟩ (.slice k.rA k.rn k.rc)).setCell ⟨b,10,none⟩ (.slice k.fA k.fn k.fc)).setCell ⟨b,11,none⟩ (.slice k.wA k.wn k.wc)).setCell ⟨b,12,none⟩ (.int .i64 k.last)).setCell ⟨b,13,none⟩ (.slice k.oA k.on k.oc)).setCell ⟨b,14,none⟩ (.slice k.qA k.qn k.qc)).setCell ⟨b,15,none⟩ (.bool k.qo)).setCell ⟨b,16,none⟩ (.slice k.eA k.en k.ec)).setCell ⟨b,17,none⟩ (.int .i64 k.free)).setCell ⟨b,18,none⟩ (.int .i64 k.next)).setCell ⟨b,19,none⟩ (.int .i64 k.arg)).setCell ⟨b,20,none⟩ (.int .i64 k.self)).setCell ⟨b,21,none⟩ (.int .i64 k.now)).setCell ⟨b,22,none⟩ (.slice k.hA k.hn k.hc)) b k:=by
  have h0:=Go.Joins.block_setCell (i:=0) h (.int .i64 k.cm);have h1:=Go.Joins.block_setCell (i:=1) h0 (.int .i64 k.cd);have h2:=Go.Joins.block_setCell (i:=2) h1 (.int .i64 k.cr);have h3:=Go.Joins.block_setCell (i:=3) h2 (.int .i64 k.cw);have h4:=Go.Joins.block_setCell (i:=4) h3 (.int .i64 k.co);have h5:=Go.Joins.block_setCell (i:=5) h4 (.slice k.mA k.mn k.mc);have h6:=Go.Joins.block_setCell (i:=6) h5 (.slice k.pA k.pn k.pc);have h7:=Go.Joins.block_setCell (i:=7) h6 (.int .i64 k.here);have h8:=Go.Joins.block_setCell (i:=8) h7 (.slice k.dA k.dn k.dc);have h9:=Go.Joins.block_setCell (i:=9) h8 (.slice k.rA k.rn k.rc);have h10:=Go.Joins.block_setCell (i:=10) h9 (.slice k.fA k.fn k.fc);have h11:=Go.Joins.block_setCell (i:=11) h10 (.slice k.wA k.wn k.wc);have h12:=Go.Joins.block_setCell (i:=12) h11 (.int .i64 k.last);have h13:=Go.Joins.block_setCell (i:=13) h12 (.slice k.oA k.on k.oc);have h14:=Go.Joins.block_setCell (i:=14) h13 (.slice k.qA k.qn k.qc);have h15:=Go.Joins.block_setCell (i:=15) h14 (.bool k.qo);have h16:=Go.Joins.block_setCell (i:=16) h15 (.slice k.eA k.en k.ec);have h17:=Go.Joins.block_setCell (i:=17) h16 (.int .i64 k.free);have h18:=Go.Joins.block_setCell (i:=18) h17 (.int .i64 k.next);have h19:=Go.Joins.block_setCell (i:=19) h18 (.int .i64 k.arg);have h20:=Go.Joins.block_setCell (i:=20) h19 (.int .i64 k.self);have h21:=Go.Joins.block_setCell (i:=21) h20 (.int .i64 k.now);have h22:=Go.Joins.block_setCell (i:=22) h21 (.slice k.hA k.hn k.hc)
  simpa [VBox] using h22
theorem vm_info : (Tryz.prog.info? 37).map (·.size) = some 23:=by kernel_rfl
abbrev vmC (k : VmK) : Array Value:=#[.int .i64 k.cm,.int .i64 k.cd,.int .i64 k.cr,.int .i64 k.cw,.int .i64 k.co,.slice k.mA k.mn k.mc,.slice k.pA k.pn k.pc,.int .i64 k.here,.slice k.dA k.dn k.dc,.slice k.rA k.rn k.rc,.slice k.fA k.fn k.fc,.slice k.wA k.wn k.wc,.int .i64 k.last,.slice k.oA k.on k.oc,.slice k.qA k.qn k.qc,.bool k.qo,.slice k.eA k.en k.ec,.int .i64 k.free,.int .i64 k.next,.int .i64 k.arg,.int .i64 k.self,.int .i64 k.now,.slice k.hA k.hn k.hc]
theorem vm_one (k : VmK) : (vmC k).all (·.oneCell') = true:=by simp [Value.oneCell']
theorem vrow {w : World} {b : Nat} {j : VmK} (h : VBox w b j) (k : VmK) : VBox (w.setRow b (vmC k)) b k:=setRow_heap w b _ _ _ _ h
theorem vrow_far {w : World} {b b' : Nat} {k : VmK} (h : VBox w b k) (hne : b ≠ b') (cs : Array Value) : VBox (w.setRow b' cs) b k:=by
  unfold VBox at h ⊢;rw [setRow_other w b' b cs (by omega)];exact h
theorem VBox.set_m {w : World} {b : Nat} {k : VmK} (h : VBox w b k) (B : Option Addr) (m d : Nat) : VBox (w.setCell ⟨b,5,none⟩ (.slice B m d)) b { k with mA:=B,mn:=m,mc:=d }:=by
  have h1:=Go.Joins.block_setCell (i:=5) h (.slice B m d);simpa [VBox] using h1
theorem VBox.set_p {w : World} {b : Nat} {k : VmK} (h : VBox w b k) (B : Option Addr) (m d : Nat) : VBox (w.setCell ⟨b,6,none⟩ (.slice B m d)) b { k with pA:=B,pn:=m,pc:=d }:=by
  have h1:=Go.Joins.block_setCell (i:=6) h (.slice B m d);simpa [VBox] using h1
theorem VBox.set_d {w : World} {b : Nat} {k : VmK} (h : VBox w b k) (B : Option Addr) (m d : Nat) : VBox (w.setCell ⟨b,8,none⟩ (.slice B m d)) b { k with dA:=B,dn:=m,dc:=d }:=by
  have h1:=Go.Joins.block_setCell (i:=8) h (.slice B m d);simpa [VBox] using h1
theorem VBox.set_r {w : World} {b : Nat} {k : VmK} (h : VBox w b k) (B : Option Addr) (m d : Nat) : VBox (w.setCell ⟨b,9,none⟩ (.slice B m d)) b { k with rA:=B,rn:=m,rc:=d }:=by
  have h1:=Go.Joins.block_setCell (i:=9) h (.slice B m d);simpa [VBox] using h1
theorem VBox.set_f {w : World} {b : Nat} {k : VmK} (h : VBox w b k) (B : Option Addr) (m d : Nat) : VBox (w.setCell ⟨b,10,none⟩ (.slice B m d)) b { k with fA:=B,fn:=m,fc:=d }:=by
  have h1:=Go.Joins.block_setCell (i:=10) h (.slice B m d);simpa [VBox] using h1
theorem VBox.set_w {w : World} {b : Nat} {k : VmK} (h : VBox w b k) (B : Option Addr) (m d : Nat) : VBox (w.setCell ⟨b,11,none⟩ (.slice B m d)) b { k with wA:=B,wn:=m,wc:=d }:=by
  have h1:=Go.Joins.block_setCell (i:=11) h (.slice B m d);simpa [VBox] using h1
theorem VBox.set_e {w : World} {b : Nat} {k : VmK} (h : VBox w b k) (B : Option Addr) (m d : Nat) : VBox (w.setCell ⟨b,16,none⟩ (.slice B m d)) b { k with eA:=B,en:=m,ec:=d }:=by
  have h1:=Go.Joins.block_setCell (i:=16) h (.slice B m d);simpa [VBox] using h1
theorem vm_load {w : World} {b : Nat} {k : VmK} (h : VBox w b k) : (loadVar 37 ⟨b,0,none⟩).run Tryz.prog w = .ok (vmV k) w:=run_loadVar_row w b _ _ _ _ _ h Tryz.underlying37 rfl vm_info
theorem res_ct {fn : Func} {p t : Tmp} (h : fn.results = #[.cell p 37,.tmp t]) (tmps : Array Value) (w : World) (b : Nat) (k : VmK) (hp : tmps.getD p undef = .pointer (some ⟨b,0,none⟩)) (hb : VBox w b k) :
    (results fn tmps).run Tryz.prog w = .ok (.tuple #[vmV k,tmps.getD t undef]) w:=by
  have hp' : tmps[p]?.getD undef = .pointer (some ⟨b,0,none⟩):=by simpa using hp
  simp [results,h,hp',asAddr,vm_load hb]
theorem res_tct {fn : Func} {p t u : Tmp} (h : fn.results = #[.tmp u,.cell p 37,.tmp t]) (tmps : Array Value) (w : World) (b : Nat) (k : VmK) (hp : tmps.getD p undef = .pointer (some ⟨b,0,none⟩)) (hb : VBox w b k) :
    (results fn tmps).run Tryz.prog w = .ok (.tuple #[tmps.getD u undef,vmV k,tmps.getD t undef]) w:=by
  have hp' : tmps[p]?.getD undef = .pointer (some ⟨b,0,none⟩):=by simpa using hp
  simp [results,h,hp',asAddr,vm_load hb]
theorem step_vload {ops : Array Oper} {o : Oper} {a : Act} {K : Act → World → Prop} {Q : Exit → Act → World → Prop} {E : Prop} {w : World} (hgd : o.guard = none) (x : Operand) (ho : o.op = .load 37 x)
    (b : Nat) (k : VmK) (hx : a.eval x = .pointer (some ⟨b,0,none⟩)) (hb : VBox w b k) (h : K (a.put o.dst (vmV k)) w) :
    if Region.wanted o (yielded ops a.tmps) = true then Oper.wp Tryz.prog o a w K Q else E:=by
  have hw : Region.wanted o (yielded ops a.tmps) = true:=by simp [Region.wanted,hgd]
  rw [if_pos hw];exact wp_load_row 37 x ho b hx _ _ _ _ hb Tryz.underlying37 rfl vm_info h
theorem step_vstore {ops : Array Oper} {o : Oper} {a : Act} {K : Act → World → Prop} {Q : Exit → Act → World → Prop} {E : Prop} {w : World} (hgd : o.guard = none) (x y : Operand) (ho : o.op = .store 37 x y)
    (b : Nat) (j k : VmK) (hx : a.eval x = .pointer (some ⟨b,0,none⟩)) (hy : a.eval y = vmV k) (hb : VBox w b j) (h : K (a.put o.dst undef) (w.setRow b (vmC k))) :
    if Region.wanted o (yielded ops a.tmps) = true then Oper.wp Tryz.prog o a w K Q else E:=by
  have hw : Region.wanted o (yielded ops a.tmps) = true:=by simp [Region.wanted,hgd]
  rw [if_pos hw];exact wp_store_row 37 x y ho b (vmC k) hx hy _ _ hb vm_info rfl (vm_one k) h


def Rws {α : Type} (enc : α → List Value) (w : World) (v : Value) (l : List α) : Prop:=∃ A c,v = .slice A l.length c ∧ l.length ≤ c ∧ c ≤ maxLen ∧ Lies w A (l.flatMap enc)
theorem Rws.keep {α : Type} {enc : α → List Value} {w w' : World} {v : Value} {l : List α} (h : Rws enc w v l) (b : Below w.heap.size w w') : Rws enc w' v l:=by
  obtain ⟨A,c,h1,h2,h3,h4⟩:=h;exact ⟨A,c,h1,h2,h3,h4.keep b⟩
theorem rws_nil {α : Type} (enc : α → List Value) (w : World) : Rws enc w (.slice none 0 0) []:=⟨none,0,rfl,Nat.le_refl _,Nat.zero_le _,.inl rfl⟩
theorem Rws.len {α : Type} {enc : α → List Value} {w : World} {A : Option Addr} {n c : Nat} {l : List α} (h : Rws enc w (.slice A n c) l) : l.length = n:=by
  obtain ⟨A',c',e,_⟩:=h;injection e with _ e _
  exact e.symm
theorem Rws.lies {α : Type} {enc : α → List Value} {w : World} {A : Option Addr} {n c : Nat} {l : List α} (h : Rws enc w (.slice A n c) l) : Lies w A (l.flatMap enc):=by
  obtain ⟨A',c',e,_,_,hl⟩:=h;injection e with e _ _
  subst e;exact hl
theorem flat_at {α : Type} {enc : α → List Value} {s : Nat} (hs : ∀ x,(enc x).length = s) : ∀ {l : List α} {k : Nat} (hk : k < l.length) {i : Nat},i < s → (l.flatMap enc)[k * s + i]? = (enc l[k])[i]?
  | q :: l,0,_,i,hi => by
    rw [List.flatMap_cons,Nat.zero_mul,Nat.zero_add,List.getElem?_append_left (by rw [hs]; exact hi)];rfl
  | q :: l,k + 1,hk,i,hi => by
    have:=flat_at hs (l:=l) (k:=k) (by simpa using hk) hi;rw [List.flatMap_cons,List.getElem?_append_right (by rw [hs,Nat.add_mul]; omega),hs];rw [show (k + 1) * s + i - s = k * s + i by rw [Nat.add_mul]; omega];exact this
theorem Rws.cell {α : Type} {enc : α → List Value} {s : Nat} (hs : ∀ x,(enc x).length = s) (h0 : 0 < s) {w : World} {A : Option Addr} {n c : Nat} {l : List α} (h : Rws enc w (.slice A n c) l) {k : Nat} (hk : k < l.length) :
    ∃ g o,A = some ⟨g,o,none⟩ ∧ g < w.heap.size ∧ ∀ i v,i < s → (enc l[k])[i]? = some v → w.cell? ⟨g,o + (k * s + i),none⟩ = some v:=by
  rcases h.lies with h | ⟨g,o,e,hg,hc⟩
  · have h1:=flat_at hs hk h0
    rw [h] at h1;have h2 : (enc l[k])[0]? = some ((enc l[k])[0]'(by rw [hs]; exact h0)):=List.getElem?_eq_getElem _;rw [h2] at h1;cases h1
  · exact ⟨g,o,e,hg,fun i v hi hv => hc _ _ (by rw [flat_at hs hk hi]; exact hv)⟩
structure Fm where
  d : Int
  r : Int
  ip : Int
deriving DecidableEq
def fmE (q : Fm) : List Value:=[.int .i64 q.d,.int .i64 q.r,.int .i64 q.ip]
abbrev Fms (w : World) (v : Value) (l : List Fm) : Prop:=Rws fmE w v l
def fmSame (a b : List Fm) : Bool:=decide (a = b)
theorem fm_self (a : List Fm) : fmSame a a = true:=by unfold fmSame; simp
structure Rq where
  kind : Int
  arg : Int
  hand : Int
  rank : Int
  delay : Int
  id : Int
deriving DecidableEq
def rqE (q : Rq) : List Value:=[.int .i64 q.kind,.int .i64 q.arg,.int .i64 q.hand,.int .i64 q.rank,.int .i64 q.delay,.int .i64 q.id]
abbrev Rqs (w : World) (v : Value) (l : List Rq) : Prop:=Rws rqE w v l
def rqSame (a b : List Rq) : Bool:=decide (a = b)
theorem rq_self (a : List Rq) : rqSame a a = true:=by unfold rqSame; simp
structure Hn where
  xt : Int
  fuel : Int
  strikes : Int
  out : Bool
deriving DecidableEq
def hnE (q : Hn) : List Value:=[.int .i64 q.xt,.int .i64 q.fuel,.int .i64 q.strikes,.bool q.out]
abbrev Hns (w : World) (v : Value) (l : List Hn) : Prop:=Rws hnE w v l
def hnSame (a b : List Hn) : Bool:=decide (a = b)
theorem hn_self (a : List Hn) : hnSame a a = true:=by unfold hnSame; simp
end Go.Proofs.YtcmldhjicjmmgaaGreatDoor
