/- Part 41. -/
import Derived.Test.YtcmldhjicjmmgaaGreatDoorXlBL
set_option linter.unusedVariables false
set_option linter.unusedSimpArgs false
set_option maxRecDepth 100000
set_option maxHeartbeats 4000000

namespace Go.Proofs.YtcmldhjicjmmgaaGreatDoor
open Go.RowKit


def RS.mS (S : RS) (m : PM) : RS:={ S with L:={ S.L with m:=m } }
theorem wgive_any (S : RS) (t : Int) (l : List Int) (x : Int) (K : IsKind S t 257) (ht : S.k.last = t) (h0 : (t == 0) = false) (he : S.L.r = l ++ [x]) (hl : S.L.r.length ≤ 60000) (hc : cellC S.L.m.1.length (wrap64 (t + 8)) = 0) (hp : S.L.m.2.length < 900) :
    WGo0 115 S ({ (S.mS (storeF (storeF S.L.m t 259) (wrap64 (t + 8)) S.ip)).rS l with ip:=x }) .nilIface:=by
  intro b w H;obtain ⟨r,h⟩:=H;have X:=zqh h.box;have h9:=zqh h;have p12 : w.cell? ⟨b,12,none⟩ = some (.int .i64 t):=by
    have:=h.box.c12;rw [show r.v.last = S.k.last from h.sc.last,ht] at this;exact this
  have HK:=zqh (wkind K h);have l1 : (storeF S.L.m t 259).1.length = S.L.m.1.length:=store_len9I _ _ _;have l2 : (storeF S.L.m t 259).2.length < 1000:=by have:=store_pats S.L.m t 259; omega
  have c1:=zqh K.c;have c2:=zqh K.l;have c3:=zqh (show S.L.m.2.length < 1000 by omega);have c4:=zqh (show cellC (storeF S.L.m t 259).1.length (wrap64 (t + 8)) = 0 by rw [l1]; exact hc);have c5:=zqh (show (storeF S.L.m t 259).1.length ≤ 65536 by rw [l1]; exact K.l);have c6:=zqh l2;have HE:=zqh he;have HL:=zqh hl;clear h K l1 l2 hc hp he hl ht;go_enter Tryz.func115,Tryz.ntmps115;(go_wp2_with (first | (refine wpList_wkvload (by rfl) _ rfl b r _ rfl X.out ?_)));refine HK.out.mono ?_;rintro e w1 ⟨rfl,bb⟩;have W1 : Hid (Wk w1 b S .nilIface):=⟨r,h9.out.keep bb⟩;have B1:=zqh (bb.mono (Nat.le_of_lt h9.out.box.lt));clear bb p12 h9 X HK;(go_wp2_with fail);refine ((wstore_any S t 259 c1.out c2.out c3.out) b _ W1.out).mono ?_;rintro e w2 ⟨rfl,hw,hb⟩;have W2:=zqh hw;have B2:=zqh (B1.out.trans hb);have P2 : w2.cell? ⟨b,23,none⟩ = some (.int .i64 S.ip):=hw.cip;clear W1 B1 hw hb;(go_wp2_with fail);refine ((wstore_any (S.mS (storeF S.L.m t 259)) (wrap64 (t + 8)) S.ip c4.out c5.out c6.out) b _ W2.out).mono ?_;rintro e w3 ⟨rfl,hw,hb⟩;have W3:=zqh hw;have B3:=zqh (B2.out.trans hb);clear W2 B2 hw hb P2;(go_wp2_with fail);refine ((wrpop_any (S.mS (storeF (storeF S.L.m t 259) (wrap64 (t + 8)) S.ip)) l x HE.out HL.out) b _ W3.out).mono ?_;rintro e w4 ⟨rfl,hw,hb⟩;have W4:=zqh hw;have B4:=zqh (B3.out.trans hb);have P4:=hw.cip;have F4:=hw.fr 23;clear W3 B3 hw hb;(go_wp2_with fail);refine bodyPost_end (results_none rfl _ _ _) rfl ?_;exact ⟨rfl,W4.out.set_ip _,B4.out.setCell (p:=⟨b,23,none⟩) (Nat.le_refl _) _⟩
theorem go_does (S : RS) (S' : RS) (H : WGo0 115 S S' .nilIface) : WGo1 85 (10) S S' .nilIface:=by
  intro b w W;have HC:=zqh (H b w W);clear H W;go_enter Tryz.func85,Tryz.ntmps85;(go_wp2_with fail);refine HC.out.mono ?_;rintro e w1 ⟨rfl,hw,hb⟩;(go_wp2_with fail);refine bodyPost_end (results_none rfl _ _ _) rfl ⟨rfl,hw,hb⟩


def stK (K : VmK) (a : Addr) (M : PM) (d r : List Int) (ip fu : Int) : RS:=⟨a,fun _ => False,K,stL9 M d r,ip,0,false,fu⟩
def stKX (K : VmK) (a : Addr) (M : PM) (d r : List Int) (ip fu : Int) (X : Nat → Prop) : RS:=⟨a,X,K,stL9 M d r,ip,0,false,fu⟩
def stKW (K : VmK) (a : Addr) (M : PM) (d r : List Int) (ip x fu : Int) : RS:=⟨a,fun _ => False,K,stL9 M d r,ip,x,true,fu⟩
structure Room32 (K : VmK) : Prop where
  d : K.cd = 32
  r : K.cr = 32
theorem WordAt.nextK {M : PM} {ip x n : Int} (W : WordAt M ip x n) (K : VmK) (a : Addr) (d r : List Int) (fu : Int) : Nexts (stK K a M d r ip fu) x (stK K a M d r (ip + 8) (fu - 1)):=by
  have H:=nexts_cell (stK K a M d r ip fu) rfl (show cellC M.1.length ip = 0 from cell_in W.l W.i0 (by have:=W.i1; omega) W.i8) (by show M.1.length ≤ _; rw [W.l]; decide);have e : wrap64 (ip + 8) = ip + 8:=wrap_8 W.i0 (by have:=W.i1; omega);have hx : fetchF (stK K a M d r ip fu).L.m (stK K a M d r ip fu).ip = x:=W.c;rw [hx] at H;rw [← e];exact H
theorem k_exit {K : VmK} (HK : Room32 K) (a : Addr) {M : PM} {D R : List Int} {ip x fu : Int} (W : WordAt M ip x 0) (F : Fu fu) {q : Int} (hr : R.length ≤ 30) : StepTo (stK K a M (D) (R ++ [q]) ip fu) (stK K a (M) (D) (R) (q) (fu - 1)) false 0:=by
  exact step_ok (S1:=stK K a M (D) (R ++ [q]) (ip + 8) (fu - 1)) F.1 F.2 rfl (W.nextK K a _ _ fu) (fun X => word_own (W.kind rfl) (by decide) (own_0 (go_exit (stKX K a M (D) (R ++ [q]) (ip + 8) (fu - 1) X) R q rfl (by show (R ++ [q]).length ≤ _; (try simp); omega))))
theorem k_gives {K : VmK} (HK : Room32 K) (a : Addr) {M : PM} {D R : List Int} {ip x fu : Int} (W : WordAt M ip x 10) (F : Fu fu) {q t : Int} (ht : K.last = t) (t0 : 0 < t) (t1 : t ≤ 2032) (t8 : t % 8 = 0) (hf : fetchF M t = 257) (hp : M.2.length < 900) (hr : R.length ≤ 30) : StepTo (stK K a M (D) (R ++ [q]) ip fu) (stK K a (storeF (storeF M t 259) (t + 8) (ip + 8)) (D) (R) (q) (fu - 1)) false 0:=by
  have e9 : wrap64 (t + 8) = t + 8:=by unfold wrap64; omega
  rw [← e9];exact step_ok (S1:=stK K a M (D) (R ++ [q]) (ip + 8) (fu - 1)) F.1 F.2 rfl (W.nextK K a _ _ fu) (fun X => word_own (W.kind rfl) (by decide) (own_10 (go_does _ _ (wgive_any (stKX K a M (D) (R ++ [q]) (ip + 8) (fu - 1) X) t R q (isk rfl W.l (by omega) (by omega) t8 hf (by decide)) ht (by simp; omega) rfl (by show (R ++ [q]).length ≤ _; (try simp); omega) (by show cellC M.1.length (wrap64 (t + 8)) = 0; rw [e9]; exact cell_in W.l (by omega) (by omega) (by omega)) hp))))
theorem k_prim {K : VmK} (a : Addr) {M : PM} {D R D2 : List Int} {ip x fu n : Int} (W : WordAt M ip x n) (F : Fu fu) (h23 : 23 ≤ n ∧ n ≤ 129) (H : PGo n K (stL9 M D R) K (stL9 M D2 R)) : StepTo (stK K a M D R ip fu) (stK K a M D2 R (ip + 8) (fu - 1)) false 0:=by
  exact step_ok (S1:=stK K a M D R (ip + 8) (fu - 1)) F.1 F.2 rfl (W.nextK K a _ _ fu) (fun X => word_prim (W.kind rfl) h23 H)
theorem k_halt {K : VmK} (a : Addr) {M : PM} {D R : List Int} {ip x fu : Int} (W : WordAt M ip x 8) (F : Fu fu) : StepTo (stK K a M D R ip fu) (stK K a M D R (ip + 8) (fu - 1)) true 0:=by
  exact step_end (S1:=stK K a M D R (ip + 8) (fu - 1)) (S2:=stK K a M D R (ip + 8) (fu - 1)) F.1 F.2 rfl (W.nextK K a _ _ fu) (fun X => word_own (W.kind rfl) (by decide) (own_8 (go_halt (stKX K a M D R (ip + 8) (fu - 1) X))))
theorem kw_col {K : VmK} (HK : Room32 K) (a : Addr) {M : PM} {D R : List Int} {ip x fu : Int} (C : M.1.length = 2048) (x0 : 0 ≤ x) (x1 : x ≤ 2024) (x8 : x % 8 = 0) (hx : fetchF M x = 256) (F : Fu fu) (hr : R.length ≤ 30) : StepTo (stKW K a M D R ip x fu) (stK K a M (D) (R ++ [ip]) (x + 8) (fu - 1)) false 0:=by
  have e8 : wrap64 (x + 8) = x + 8:=by unfold wrap64; omega
  rw [← e8];exact step_ok (S1:=stK K a M D R ip (fu - 1)) F.1 F.2 rfl (nexts_do (stKW K a M D R ip x fu) rfl) (fun X => word_256 (isk rfl C x0 (Int.le_trans x1 (by decide)) x8 hx (by decide)) (made_col (stKX K a M D R ip (fu - 1) X) x (by show (((R).length : Nat) : Int) < K.cr; rw [HK.r]; (try simp); omega) (by show (R).length ≤ _; (try simp); omega)))
theorem kw_var {K : VmK} (HK : Room32 K) (a : Addr) {M : PM} {D R : List Int} {ip x fu : Int} (C : M.1.length = 2048) (x0 : 0 ≤ x) (x1 : x ≤ 2024) (x8 : x % 8 = 0) (hx : fetchF M x = 257) (F : Fu fu) (hd : D.length ≤ 31) : StepTo (stKW K a M D R ip x fu) (stK K a M (D ++ [x + 16]) (R) (ip) (fu - 1)) false 0:=by
  have e16 : wrap64 (x + 16) = x + 16:=by unfold wrap64; omega
  rw [← e16];exact step_ok (S1:=stK K a M D R ip (fu - 1)) F.1 F.2 rfl (nexts_do (stKW K a M D R ip x fu) rfl) (fun X => word_257 (isk rfl C x0 (Int.le_trans x1 (by decide)) x8 hx (by decide)) (made_var (stKX K a M D R ip (fu - 1) X) x (by show (((D).length : Nat) : Int) < K.cd; rw [HK.d]; (try simp); omega) (by show (D).length ≤ _; (try simp); omega)))
theorem kw_con {K : VmK} (HK : Room32 K) (a : Addr) {M : PM} {D R : List Int} {ip x fu : Int} (C : M.1.length = 2048) (x0 : 0 ≤ x) (x1 : x ≤ 2024) (x8 : x % 8 = 0) (hx : fetchF M x = 258) (F : Fu fu) (hd : D.length ≤ 31) {y : Int} (hy : fetchF M (x + 16) = y) : StepTo (stKW K a M D R ip x fu) (stK K a M (D ++ [y]) (R) (ip) (fu - 1)) false 0:=by
  have e16 : wrap64 (x + 16) = x + 16:=by unfold wrap64; omega
  rw [← hy,← e16];exact step_ok (S1:=stK K a M D R ip (fu - 1)) F.1 F.2 rfl (nexts_do (stKW K a M D R ip x fu) rfl) (fun X => word_258 (isk rfl C x0 (Int.le_trans x1 (by decide)) x8 hx (by decide)) (made_con (stKX K a M D R ip (fu - 1) X) x (by show (((D).length : Nat) : Int) < K.cd; rw [HK.d]; (try simp); omega) (by show (D).length ≤ _; (try simp); omega) (by show cellC M.1.length (wrap64 (x + 16)) = 0; rw [e16]; exact cell_in C (by omega) (by omega) (by omega)) (by show M.1.length ≤ _; rw [C]; decide)))
theorem kw_does {K : VmK} (HK : Room32 K) (a : Addr) {M : PM} {D R : List Int} {ip x fu : Int} (C : M.1.length = 2048) (x0 : 0 ≤ x) (x1 : x ≤ 2024) (x8 : x % 8 = 0) (hx : fetchF M x = 259) (F : Fu fu) (hd : D.length ≤ 31) (hr : R.length ≤ 30) {y : Int} (hy : fetchF M (x + 8) = y) : StepTo (stKW K a M D R ip x fu) (stK K a M (D ++ [x + 16]) (R ++ [ip]) (y) (fu - 1)) false 0:=by
  have e8 : wrap64 (x + 8) = x + 8:=by unfold wrap64; omega
  have e16 : wrap64 (x + 16) = x + 16:=by unfold wrap64; omega
  rw [← hy,← e8,← e16];exact step_ok (S1:=stK K a M D R ip (fu - 1)) F.1 F.2 rfl (nexts_do (stKW K a M D R ip x fu) rfl) (fun X => word_259 (isk rfl C x0 (Int.le_trans x1 (by decide)) x8 hx (by decide)) (made_does (stKX K a M D R ip (fu - 1) X) x (by show (((D).length : Nat) : Int) < K.cd; rw [HK.d]; (try simp); omega) (by show (D).length ≤ _; (try simp); omega) (by show cellC M.1.length (wrap64 (x + 8)) = 0; rw [e8]; exact cell_in C (by omega) (by omega) (by omega)) (by show M.1.length ≤ _; rw [C]; decide) (by show (((R).length : Nat) : Int) < K.cr; rw [HK.r]; (try simp); omega) (by show (R).length ≤ _; (try simp); omega)))


def doK : VmK:={ freK with last:=1368 }
theorem room_do : Room32 doK:=⟨rfl,rfl⟩
theorem ok_do {M : PM} (h : MemOk M) {d r : List Int} (hd : d.length ≤ 400) (hc : ∀ x ∈ d,cellR x) : Ok doK (stL9 M d r) :=
  ⟨by show 2048 ≤ M.1.length; rw [h.l]; decide,by show M.1.length ≤ _; rw [h.l]; decide,h.p,hd,hc,Nat.zero_le _,Nat.zero_le _,Nat.zero_le _,Nat.zero_le _,by decide,by decide,by decide,by decide,by decide,by show (1368 : Int) ≤ (M.1.length : Int); rw [h.l]; decide,by show (2048 : Int) = _; rw [h.l]; rfl⟩
theorem p_at {M : PM} (h : MemOk M) {r : List Int} {m p n : Int} (hm : cellR m) (p0 : 0 ≤ p) (p1 : p ≤ 2040) (p8 : p % 8 = 0) (hf : fetchF M p = n) : PGo 83 doK (stL9 M [m,p] r) doK (stL9 M [m,n] r):=by
  have c : cellC M.1.length p = 0:=cell_in h.l p0 p1 p8;have hd : effF 83 doK (stL9 M [m,p] r) [p] = ⟨0,[n],doK,stL9 M [m,p] r⟩:=by
    show (⟨cellC M.1.length p,[fetchF M p],doK,stL9 M [m,p] r⟩ : Eff) = _;rw [c,hf]
  have e : doE 83 doK (stL9 M [m,p] r) = ⟨0,[],doK,stL9 M [m,n] r⟩:=by
    show deedE 1 (effF 83) doK (stL9 M [m,p] r) = _;unfold deedE;rw [if_neg (show ¬ ((stL9 M [m,p] r).d.length < 1) from (by show ¬ (2 < 1); decide)),show (stL9 M [m,p] r).d.drop ((stL9 M [m,p] r).d.length - 1) = [p] from rfl,hd,if_pos rfl,if_neg (by show ¬ ((32 : Int) < 2); decide)];rfl
  have hc : ∀ y ∈ [m,p],cellR y:=by intro y hy; simp at hy; rcases hy with rfl | rfl; exact hm; unfold cellR; omega
  exact pgo_of (m:=83) (by omega) (by omega) (fun g w hs => deeds_83 83 (by omega) (by omega) g w hs) (ok_do h (by simp) hc) (by rw [show ((83 : Nat) : Int) = 83 from rfl,e]) (by rw [show ((83 : Nat) : Int) = 83 from rfl,e]) (by rw [show ((83 : Nat) : Int) = 83 from rfl,e]; exact Sc.refl _)
theorem p_plus {M : PM} (h : MemOk M) {r : List Int} {m n : Int} (hm : cellR m) (hn : cellR n) : PGo 39 doK (stL9 M [m,n] r) doK (stL9 M [wrap64 (m + n)] r) :=
  pgo_of (m:=39) (by omega) (by omega) (fun g w hs => deeds_39 39 (by omega) (by omega) g w hs) (ok_do h (by simp) (by intro y hy; simp at hy; rcases hy with rfl | rfl; exact hm; exact hn)) (by kernel_rfl) (by kernel_rfl) (by exact Sc.refl _)
theorem NewM.store {M : PM} (h : NewM M) {p x : Int} (h0 : 1368 ≤ p) (h1 : p ≤ 2040) (h8 : p % 8 = 0) (hp : M.2.length < 900) : NewM (storeF M p x):=by
  have c:=cell_in h.l (show 0 ≤ p by omega) h1 h8;refine ⟨(store_len9I _ _ _).trans h.l,by have:=store_pats M p x; omega,fun m hm => ?_,?_,?_⟩
  · rw [store_away _ _ _ _ c (by omega) (by omega) (.inl (by omega))]; exact h.num m hm
  · rw [store_away _ _ _ _ c (by omega) (by omega) (.inl (by omega))]; exact h.halt
  · rw [store_away _ _ _ _ c (by omega) (by omega) (.inl (by omega))]; exact h.caught
theorem NewM.away {M : PM} (h : NewM M) {p q x : Int} (q0 : 0 ≤ q) (q1 : q ≤ 2040) (q8 : q % 8 = 0) (p0 : 0 ≤ p) (hp : p + 8 ≤ q ∨ q + 8 ≤ p) : fetchF (storeF M q x) p = fetchF M p:=store_away _ _ _ _ (cell_in h.l q0 q1 q8) p0 q0 hp
theorem NewM.there {M : PM} (h : NewM M) {q x : Int} (q0 : 0 ≤ q) (q1 : q ≤ 2040) (q8 : q % 8 = 0) (hx : cellR x) : fetchF (storeF M q x) q = x:=fetch_storeI _ _ _ (cell_in h.l q0 q1 q8) hx.1 (by have:=hx.2; omega)
def Q1 (n m : Int) : PM:=storeF (B0) 1368 257
theorem q1 (n m : Int) : NewM (Q1 n m):=new_b0.store (by decide) (by decide) (by decide) (by decide)
theorem q1p (n m : Int) : (Q1 n m).2.length ≤ 1:=by have:=store_pats (B0) 1368 257; have h : B0.2.length = 0:=rfl; unfold Q1; omega
def Q2 (n m : Int) : PM:=storeF (Q1 n m) 1384 n
theorem q2 (n m : Int) : NewM (Q2 n m):=(q1 n m).store (by decide) (by decide) (by decide) (by have:=q1p n m; omega)
theorem q2p (n m : Int) : (Q2 n m).2.length ≤ 2:=by have:=store_pats (Q1 n m) 1384 n; have h:=q1p n m; unfold Q2; omega
def Q3 (n m : Int) : PM:=storeF (Q2 n m) 1400 258
theorem q3 (n m : Int) : NewM (Q3 n m):=(q2 n m).store (by decide) (by decide) (by decide) (by have:=q2p n m; omega)
theorem q3p (n m : Int) : (Q3 n m).2.length ≤ 3:=by have:=store_pats (Q2 n m) 1400 258; have h:=q2p n m; unfold Q3; omega
def Q4 (n m : Int) : PM:=storeF (Q3 n m) 1416 m
theorem q4 (n m : Int) : NewM (Q4 n m):=(q3 n m).store (by decide) (by decide) (by decide) (by have:=q3p n m; omega)
theorem q4p (n m : Int) : (Q4 n m).2.length ≤ 4:=by have:=store_pats (Q3 n m) 1416 m; have h:=q3p n m; unfold Q4; omega
theorem q4_1368 (n m : Int)  : fetchF (Q4 n m) 1368 = 257:=by
  rw [show Q4 n m = storeF (Q3 n m) 1416 m from rfl,(q3 n m).away (by decide) (by decide) (by decide) (by decide) (by decide)]; rw [show Q3 n m = storeF (Q2 n m) 1400 258 from rfl,(q2 n m).away (by decide) (by decide) (by decide) (by decide) (by decide)]; rw [show Q2 n m = storeF (Q1 n m) 1384 n from rfl,(q1 n m).away (by decide) (by decide) (by decide) (by decide) (by decide)];exact new_b0.there (by decide) (by decide) (by decide) (by unfold cellR; decide)
theorem q4_1384 (n m : Int) (h : cellR n) : fetchF (Q4 n m) 1384 = n:=by
  rw [show Q4 n m = storeF (Q3 n m) 1416 m from rfl,(q3 n m).away (by decide) (by decide) (by decide) (by decide) (by decide)]; rw [show Q3 n m = storeF (Q2 n m) 1400 258 from rfl,(q2 n m).away (by decide) (by decide) (by decide) (by decide) (by decide)];exact (q1 n m).there (by decide) (by decide) (by decide) h
theorem q4_1400 (n m : Int)  : fetchF (Q4 n m) 1400 = 258:=by
  rw [show Q4 n m = storeF (Q3 n m) 1416 m from rfl,(q3 n m).away (by decide) (by decide) (by decide) (by decide) (by decide)];exact (q2 n m).there (by decide) (by decide) (by decide) (by unfold cellR; decide)
theorem q4_1416 (n m : Int) (h : cellR m) : fetchF (Q4 n m) 1416 = m:=by
  exact (q3 n m).there (by decide) (by decide) (by decide) h
def M7 (n m : Int) : PM:=laidM (Q4 n m) 1504 [112,696,344,32]
theorem m7n (n m : Int) : NewM (M7 n m):=(q4 n m).laid (by decide) (by decide) (by decide)
theorem m7f (n m : Int) : fetchF (M7 n m) 1504 = 256:=(q4 n m).first (by decide) (by decide) (by decide)
theorem m7p (n m : Int) : (M7 n m).2.length = 0:=rfl
theorem m7w0 (n m : Int) : WordAt (M7 n m) 1512 112 10:=(m7n n m).word 10 (by decide) (by decide) (by decide) (by decide) ((q4 n m).cell (p:=1504) (l:=[112,696,344,32]) 0 (by decide) (by decide) (by decide) rfl (by unfold cellR; decide))
theorem m7c1 (n m : Int) : fetchF (M7 n m) 1520 = 696:=(q4 n m).cell (p:=1504) (l:=[112,696,344,32]) 1 (by decide) (by decide) (by decide) rfl (by unfold cellR; decide)
theorem m7c2 (n m : Int) : fetchF (M7 n m) 1528 = 344:=(q4 n m).cell (p:=1504) (l:=[112,696,344,32]) 2 (by decide) (by decide) (by decide) rfl (by unfold cellR; decide)
theorem m7c3 (n m : Int) : fetchF (M7 n m) 1536 = 32:=(q4 n m).cell (p:=1504) (l:=[112,696,344,32]) 3 (by decide) (by decide) (by decide) rfl (by unfold cellR; decide)
theorem m7_1368 (n m : Int)  : fetchF (M7 n m) 1368 = 257:=(laid_away (m:=Q4 n m) (l:=[112,696,344,32]) (by decide) (by decide) (by rw [(q4 n m).l]; decide) (by decide) (.inl (by decide))).trans (q4_1368 n m)
theorem m7_1384 (n m : Int) (h : cellR n) : fetchF (M7 n m) 1384 = n:=(laid_away (m:=Q4 n m) (l:=[112,696,344,32]) (by decide) (by decide) (by rw [(q4 n m).l]; decide) (by decide) (.inl (by decide))).trans (q4_1384 n m h)
theorem m7_1400 (n m : Int)  : fetchF (M7 n m) 1400 = 258:=(laid_away (m:=Q4 n m) (l:=[112,696,344,32]) (by decide) (by decide) (by rw [(q4 n m).l]; decide) (by decide) (.inl (by decide))).trans (q4_1400 n m)
theorem m7_1416 (n m : Int) (h : cellR m) : fetchF (M7 n m) 1416 = m:=(laid_away (m:=Q4 n m) (l:=[112,696,344,32]) (by decide) (by decide) (by rw [(q4 n m).l]; decide) (by decide) (.inl (by decide))).trans (q4_1416 n m h)
def M7a (n m : Int) : PM:=storeF (M7 n m) 1368 259
theorem m7an (n m : Int) : NewM (M7a n m):=(m7n n m).store (by decide) (by decide) (by decide) (by rw [m7p]; decide)
theorem m7ap (n m : Int) : (M7a n m).2.length ≤ 1:=by have:=store_pats (M7 n m) 1368 259; have h:=m7p n m; unfold M7a; omega
def M8 (n m : Int) : PM:=storeF (M7a n m) 1376 1520
theorem m8n (n m : Int) : NewM (M8 n m):=(m7an n m).store (by decide) (by decide) (by decide) (by have:=m7ap n m; omega)
theorem m8_1368 (n m : Int) : fetchF (M8 n m) 1368 = 259:=((m7an n m).away (by decide) (by decide) (by decide) (by decide) (by decide)).trans ((m7n n m).there (by decide) (by decide) (by decide) (by unfold cellR; decide))
theorem m8_1376 (n m : Int) : fetchF (M8 n m) 1376 = 1520:=(m7an n m).there (by decide) (by decide) (by decide) (by unfold cellR; decide)
theorem m8_far (n m : Int) {p : Int} (h : 1384 ≤ p) : fetchF (M8 n m) p = fetchF (M7 n m) p:=((m7an n m).away (by decide) (by decide) (by decide) (by omega) (.inr (by omega))).trans ((m7n n m).away (by decide) (by decide) (by decide) (by omega) (.inr (by omega)))
theorem m8_1384 (n m : Int) (h : cellR n) : fetchF (M8 n m) 1384 = n:=(m8_far n m (by decide)).trans (m7_1384 n m h)
theorem m8w1 (n m : Int) : WordAt (M8 n m) 1520 696 83:=(m8n n m).word 83 (by decide) (by decide) (by decide) (by decide) ((m8_far n m (by decide)).trans (m7c1 n m))
theorem m8w2 (n m : Int) : WordAt (M8 n m) 1528 344 39:=(m8n n m).word 39 (by decide) (by decide) (by decide) (by decide) ((m8_far n m (by decide)).trans (m7c2 n m))
theorem m8w3 (n m : Int) : WordAt (M8 n m) 1536 32 0:=(m8n n m).word 0 (by decide) (by decide) (by decide) (by decide) ((m8_far n m (by decide)).trans (m7c3 n m))
theorem runs_a (a : Addr) (n m : Int) : Runs 2 (stKW doK a (M7 n m) [] [] 16 1368 20) (stK doK a (M7 n m) [1384] [] 24 18) 0:=by
  have s0 : StepTo (stKW doK a (M7 n m) [] [] 16 1368 20) (stK doK a (M7 n m) [1384] [] 16 19) false 0:=by
    have h:=kw_var (D:=[]) (R:=[]) (ip:=16) (x:=1368) (fu:=20) room_do a (m7n n m).l (by decide) (by decide) (by decide) (m7_1368 n m) ⟨by decide,by decide⟩ (by decide);exact h
  have s1 : StepTo (stK doK a (M7 n m) [1384] [] 16 19) (stK doK a (M7 n m) [1384] [] 24 18) true 0:=by
    have h:=k_halt (K:=doK) (D:=[1384]) (R:=[]) (fu:=19) a (m7n n m).halts ⟨by decide,by decide⟩;exact h
  exact .more s0 (show a = a from rfl) (.last s1 (.inl rfl))
theorem runs_b (a : Addr) (n m : Int) (hm : cellR m) : Runs 2 (stKW doK a (M7 n m) [] [] 16 1400 20) (stK doK a (M7 n m) [m] [] 24 18) 0:=by
  have s0 : StepTo (stKW doK a (M7 n m) [] [] 16 1400 20) (stK doK a (M7 n m) [m] [] 16 19) false 0:=by
    have h:=kw_con (D:=[]) (R:=[]) (ip:=16) (x:=1400) (fu:=20) (y:=m) room_do a (m7n n m).l (by decide) (by decide) (by decide) (m7_1400 n m) ⟨by decide,by decide⟩ (by decide) (m7_1416 n m hm);exact h
  have s1 : StepTo (stK doK a (M7 n m) [m] [] 16 19) (stK doK a (M7 n m) [m] [] 24 18) true 0:=by
    have h:=k_halt (K:=doK) (D:=[m]) (R:=[]) (fu:=19) a (m7n n m).halts ⟨by decide,by decide⟩;exact h
  exact .more s0 (show a = a from rfl) (.last s1 (.inl rfl))
theorem runs_c (a : Addr) (n m : Int) : Runs 3 (stKW doK a (M7 n m) [] [] 16 1504 20) (stK doK a (M8 n m) [] [] 24 17) 0:=by
  have s0 : StepTo (stKW doK a (M7 n m) [] [] 16 1504 20) (stK doK a (M7 n m) [] [16] 1512 19) false 0:=by
    have h:=kw_col (D:=[]) (R:=[]) (ip:=16) (x:=1504) (fu:=20) room_do a (m7n n m).l (by decide) (by decide) (by decide) (m7f n m) ⟨by decide,by decide⟩ (by decide);exact h
  have s1 : StepTo (stK doK a (M7 n m) [] [16] 1512 19) (stK doK a (M8 n m) [] [] 16 18) false 0:=by
    have h:=k_gives (D:=[]) (R:=[]) (q:=16) (t:=1368) (fu:=19) room_do a (m7w0 n m) ⟨by decide,by decide⟩ rfl (by decide) (by decide) (by decide) (m7_1368 n m) (by rw [m7p]; decide) (by decide);exact h
  have s2 : StepTo (stK doK a (M8 n m) [] [] 16 18) (stK doK a (M8 n m) [] [] 24 17) true 0:=by
    have h:=k_halt (K:=doK) (D:=[]) (R:=[]) (fu:=18) a (m8n n m).halts ⟨by decide,by decide⟩;exact h
  exact .more s0 (show a = a from rfl) (.more s1 (show a = a from rfl) (.last s2 (.inl rfl)))
theorem runs_d (a : Addr) (n m : Int) (hn : cellR n) (hm : cellR m) : Runs 5 (stKW doK a (M8 n m) [m] [] 16 1368 20) (stK doK a (M8 n m) [wrap64 (m + n)] [] 24 15) 0:=by
  have s0 : StepTo (stKW doK a (M8 n m) [m] [] 16 1368 20) (stK doK a (M8 n m) [m,1384] [16] 1520 19) false 0:=by
    have h:=kw_does (D:=[m]) (R:=[]) (ip:=16) (x:=1368) (fu:=20) (y:=1520) room_do a (m8n n m).l (by decide) (by decide) (by decide) (m8_1368 n m) ⟨by decide,by decide⟩ (by simp) (by decide) (m8_1376 n m);exact h
  have s1 : StepTo (stK doK a (M8 n m) [m,1384] [16] 1520 19) (stK doK a (M8 n m) [m,n] [16] 1528 18) false 0:=by
    have h:=k_prim (K:=doK) (R:=[16]) (fu:=19) a (m8w1 n m) ⟨by decide,by decide⟩ (by decide) (p_at ⟨(m8n n m).l,(m8n n m).p⟩ hm (by decide) (by decide) (by decide) (m8_1384 n m hn));exact h
  have s2 : StepTo (stK doK a (M8 n m) [m,n] [16] 1528 18) (stK doK a (M8 n m) [wrap64 (m + n)] [16] 1536 17) false 0:=by
    have h:=k_prim (K:=doK) (R:=[16]) (fu:=18) a (m8w2 n m) ⟨by decide,by decide⟩ (by decide) (p_plus ⟨(m8n n m).l,(m8n n m).p⟩ hm hn);exact h
  have s3 : StepTo (stK doK a (M8 n m) [wrap64 (m + n)] [16] 1536 17) (stK doK a (M8 n m) [wrap64 (m + n)] [] 16 16) false 0:=by
    have h:=k_exit (D:=[wrap64 (m + n)]) (R:=[]) (q:=16) (fu:=17) room_do a (m8w3 n m) ⟨by decide,by decide⟩ (by decide);exact h
  have s4 : StepTo (stK doK a (M8 n m) [wrap64 (m + n)] [] 16 16) (stK doK a (M8 n m) [wrap64 (m + n)] [] 24 15) true 0:=by
    have h:=k_halt (K:=doK) (D:=[wrap64 (m + n)]) (R:=[]) (fu:=16) a (m8n n m).halts ⟨by decide,by decide⟩;exact h
  exact .more s0 (show a = a from rfl) (.more s1 (show a = a from rfl) (.more s2 (show a = a from rfl) (.more s3 (show a = a from rfl) (.last s4 (.inl rfl)))))
theorem run_stK {n : Nat} {a : Addr} {K : VmK} {M M' : PM} {d D R : List Int} {ip x fu fu' c : Int} (HR : Runs n (stKW K a M d [] 16 x fu) (stK K a M' D R ip fu') c) {k : VmK} (w : World) (hf : 0 ≤ fu) (h : IsVm w k (stL9 M d [])) (s : Sc k K) (g : Glob a w) :
    Calls Tryz.prog 11 #[vmV k,.int .i64 x,.int .i64 fu] w fun e w' => ∃ j,e = .returned (.tuple #[vmV j,.int .i64 fu',.int .i64 c]) ∧ IsVm w' j (stL9 M' D []) ∧ Sc j K ∧ Below w.heap.size w w' :=
  run_any n w hf h s g HR


theorem VBox.set_last {w : World} {b : Nat} {k : VmK} (h : VBox w b k) (n : Int) : VBox (w.setCell ⟨b,12,none⟩ (.int .i64 n)) b { k with last:=n }:=by
  have h1:=Go.Joins.block_setCell (i:=12) h (.int .i64 n);simpa [VBox] using h1
theorem IsVm.last {w : World} {k : VmK} {L : VmL} (h : IsVm w k L) (n : Int) : IsVm w { k with last:=n } L:=⟨h.m,h.d,h.r,h.f,h.dict,h.o,h.q,h.e,h.h⟩
theorem Free.last {k : VmK} {b : Nat} (f : Free k b) (n : Int) : Free { k with last:=n } b:=⟨f.p,f.d,f.r,f.f,f.w,f.e,f.h⟩
theorem sc_last {k j : VmK} (h : Sc k j) (n : Int) : Sc { k with last:=n } { j with last:=n }:=⟨h.cm,h.cd,h.cr,h.cw,h.co,h.here,rfl,h.qo,h.free,h.next,h.arg,h.self,h.now⟩
theorem VBox.there {w : World} {b : Nat} {k : VmK} (h : VBox w b k) (o n : Nat) (hn : o + n ≤ 23) : w.there b o n:=fun j hj => by
  have hc:=cell_of_row w b (o + j) _ _ _ h;refine ⟨?_,frozen_of_row w b (o + j) _ _ h⟩;rw [hc,Array.getElem?_eq_getElem (by show o + j < _; simp; omega)];rfl
theorem vm_fold_m (k : VmK) (A P : Option Addr) (n c m d : Nat) : ([.slice A n c,.slice P m d].foldl (fun (p : Nat × Array Value) (v : Value) => (p.1 + 1,p.2.setIfInBounds p.1 v)) (5,vmC k)).2 = vmC { k with mA:=A,mn:=n,mc:=c,pA:=P,pn:=m,pc:=d }:=by kernel_rfl
theorem wpList_vmstore {ops : Array Oper} {rest : List Oper} {o : Oper} {a : Act} {Q : Exit → Act → World → Prop} {w : World} (hw : Region.wanted o (yielded ops a.tmps) = true) (x y : Operand) (ho : o.op = .store 29 x y)
    (b : Nat) (k : VmK) (A P : Option Addr) (n c m d : Nat) (hx : a.eval x = .pointer (some ⟨b,5,none⟩)) (hy : a.eval y = .agg #[.slice A n c,.slice P m d]) (hb : VBox w b k) (h : wpList Tryz.prog ops Q rest (a.put o.dst undef) (w.setRow b (vmC { k with mA:=A,mn:=n,mc:=c,pA:=P,pn:=m,pc:=d }))) : wpList Tryz.prog ops Q (o :: rest) a w :=
  wpList_step fun K hK => by
    rw [if_pos hw];refine wp_store_mid 29 x y ho b 5 #[.slice A n c,.slice P m d] hx hy (hb.there 5 2 (by decide)) mem_info9 (by simp [Value.oneCell']) (hK _ _ ?_);rw [setCells_row b _ _ 5 _ w hb,vm_fold_m];exact h
def PutOut (a : Addr) (b : Nat) (k : VmK) (L : VmL) (m : PM) (w : World) (e : Ending) (w' : World) : Prop:=∃ j,e = .returned (.tuple #[]) ∧ VBox w' b j ∧ IsVm w' j { L with m:=m } ∧ Sc j k ∧ Free j b ∧ Glob a w' ∧ Below b w w' ∧ Ex (fun g => g = b) w w'
theorem put_does {a : Addr} {b : Nat} {k : VmK} {L : VmL} (p x : Int) (w : World) (X : VBox w b k) (V : IsVm w k L) (F : Free k b) (G : Glob a w) (h3 : 3 ≤ b) (hm : L.m.1.length ≤ 65536) (hp : L.m.2.length < 900) :
    Calls Tryz.prog 13 #[.int .i64 p,.int .i64 x,.pointer (some ⟨b,0,none⟩)] w (PutOut a b k L (storeF L.m p x) w):=by
  have l1 : k.mn = L.m.1.length:=V.m.len1.symm;have HS:=zqh (rstore_atp k.mA k.pA k.mn k.mc k.pn k.pc L.m p x w (zqh V.m) (by omega) (by have:=V.m.len2; omega));have X0:=zqh X;have V0:=zqh V;have F0:=zqh F;have G0:=zqh G;have p5:=X.use.2.2.2.2.2.1;have p6:=X.use.2.2.2.2.2.2.1;clear X V F G l1 hm hp;go_enter Tryz.func13,Tryz.ntmps13;(go_wp2_with fail);refine HS.out.mono ?_;rintro e w1 ⟨A1,n1,c1,P1,K1,d1,rfl,hm,bb⟩;have X1:=zqh (X0.out.keep bb);have V1:=zqh (V0.out.keep bb);have G1:=zqh (G0.out.keep bb);have B1:=zqh (bb.mono (Nat.le_of_lt X0.out.lt));have M1:=zqh hm;have E1:=zqh ((Ex.refl (fun g => g = b) w).below bb);have F1 : Hid (Free { k with mA:=A1,mn:=n1,mc:=c1,pA:=P1,pn:=K1,pc:=d1 } b):=free_rloc (j:={ k with mA:=A1,mn:=n1,mc:=c1,pA:=P1,pn:=K1,pc:=d1 }) (k:=k) (B:=w.heap.size) ⟨hm.2 _ _ _ _ rfl,.refl _ _ _,.refl _ _ _,.refl _ _ _,.refl _ _ _,⟨rfl,rfl⟩,⟨rfl,rfl⟩⟩ F0.out X0.out.lt;clear X0 V0 F0 G0 HS p5 p6 bb hm;go_upto_region 1 with (refine wpList_mst (by rfl) _ _ rfl _ (.slice none 0 0) (.slice none 0 0) A1 P1 n1 c1 K1 d1 rfl rfl (box_new _ _ _ _) ?_)
  generalize hw : World.setRow _ _ _ = w2;have bb : Below w1.heap.size w1 w2:=by rw [← hw]; exact below_setRow (al_one _ _) (Nat.le_refl _) _
  have Y2 : Hid (Box w2 w1.heap.size (.slice A1 n1 c1) (.slice P1 K1 d1) 29):=by show Box _ _ _ _ _; rw [← hw]; exact Box.row_new (box_new _ _ _ _) _ _
  have X2:=zqh (X1.out.keep bb);have V2:=zqh (V1.out.keep bb);have G2:=zqh (G1.out.keep bb);have M2:=zqh (M1.out.1.keep bb);have B2:=zqh (B1.out.trans (bb.mono (Nat.le_of_lt X1.out.lt)));have E2:=zqh (E1.out.below bb);clear hw bb X1 V1 G1 M1 B1 E1;have p0:=Y2.out.use.1;have p1:=Y2.out.use.2.1;(go_wp2_with (refine wpList_vmstore (by rfl) _ _ rfl b k A1 P1 n1 c1 K1 d1 rfl rfl X2.out ?_));refine bodyPost_end (results_none rfl _ _ _) rfl ?_;have V3 : IsVm w2 { k with mA:=A1,mn:=n1,mc:=c1,pA:=P1,pn:=K1,pc:=d1 } { L with m:=storeF L.m p x }:=⟨M2.out,V2.out.d,V2.out.r,V2.out.f,V2.out.dict,V2.out.o,V2.out.q,V2.out.e,V2.out.h⟩;exact ⟨{ k with mA:=A1,mn:=n1,mc:=c1,pA:=P1,pn:=K1,pc:=d1 },rfl,vrow X2.out _,isvm_apart V3 F1.out (ex_row _ _ _) (vbox_nou8 X2.out),sc_m (Sc.refl _) A1 P1 n1 c1 K1 d1,F1.out,G2.out.ex h3 (ex_row _ _ _),below_setRow B2.out (Nat.le_refl _) _,E2.out.row rfl _⟩
theorem put_states {a : Addr} {b : Nat} {k : VmK} {L : VmL} (p x : Int) (w : World) (X : VBox w b k) (V : IsVm w k L) (F : Free k b) (G : Glob a w) (h3 : 3 ≤ b) (hm : L.m.1.length ≤ 65536) (hp : L.m.2.length < 900) :
    Calls Tryz.prog 15 #[.int .i64 p,.int .i64 x,.pointer (some ⟨b,0,none⟩)] w (PutOut a b k L (storeF L.m p x) w):=by
  have l1 : k.mn = L.m.1.length:=V.m.len1.symm;have HS:=zqh (rstore_atp k.mA k.pA k.mn k.mc k.pn k.pc L.m p x w (zqh V.m) (by omega) (by have:=V.m.len2; omega));have X0:=zqh X;have V0:=zqh V;have F0:=zqh F;have G0:=zqh G;have p5:=X.use.2.2.2.2.2.1;have p6:=X.use.2.2.2.2.2.2.1;clear X V F G l1 hm hp;go_enter Tryz.func15,Tryz.ntmps15;(go_wp2_with fail);refine HS.out.mono ?_;rintro e w1 ⟨A1,n1,c1,P1,K1,d1,rfl,hm,bb⟩;have X1:=zqh (X0.out.keep bb);have V1:=zqh (V0.out.keep bb);have G1:=zqh (G0.out.keep bb);have B1:=zqh (bb.mono (Nat.le_of_lt X0.out.lt));have M1:=zqh hm;have E1:=zqh ((Ex.refl (fun g => g = b) w).below bb);have F1 : Hid (Free { k with mA:=A1,mn:=n1,mc:=c1,pA:=P1,pn:=K1,pc:=d1 } b):=free_rloc (j:={ k with mA:=A1,mn:=n1,mc:=c1,pA:=P1,pn:=K1,pc:=d1 }) (k:=k) (B:=w.heap.size) ⟨hm.2 _ _ _ _ rfl,.refl _ _ _,.refl _ _ _,.refl _ _ _,.refl _ _ _,⟨rfl,rfl⟩,⟨rfl,rfl⟩⟩ F0.out X0.out.lt;clear X0 V0 F0 G0 HS p5 p6 bb hm;go_upto_region 1 with (refine wpList_mst (by rfl) _ _ rfl _ (.slice none 0 0) (.slice none 0 0) A1 P1 n1 c1 K1 d1 rfl rfl (box_new _ _ _ _) ?_)
  generalize hw : World.setRow _ _ _ = w2;have bb : Below w1.heap.size w1 w2:=by rw [← hw]; exact below_setRow (al_one _ _) (Nat.le_refl _) _
  have Y2 : Hid (Box w2 w1.heap.size (.slice A1 n1 c1) (.slice P1 K1 d1) 29):=by show Box _ _ _ _ _; rw [← hw]; exact Box.row_new (box_new _ _ _ _) _ _
  have X2:=zqh (X1.out.keep bb);have V2:=zqh (V1.out.keep bb);have G2:=zqh (G1.out.keep bb);have M2:=zqh (M1.out.1.keep bb);have B2:=zqh (B1.out.trans (bb.mono (Nat.le_of_lt X1.out.lt)));have E2:=zqh (E1.out.below bb);clear hw bb X1 V1 G1 M1 B1 E1;have p0:=Y2.out.use.1;have p1:=Y2.out.use.2.1;(go_wp2_with (refine wpList_vmstore (by rfl) _ _ rfl b k A1 P1 n1 c1 K1 d1 rfl rfl X2.out ?_));refine bodyPost_end (results_none rfl _ _ _) rfl ?_;have V3 : IsVm w2 { k with mA:=A1,mn:=n1,mc:=c1,pA:=P1,pn:=K1,pc:=d1 } { L with m:=storeF L.m p x }:=⟨M2.out,V2.out.d,V2.out.r,V2.out.f,V2.out.dict,V2.out.o,V2.out.q,V2.out.e,V2.out.h⟩;exact ⟨{ k with mA:=A1,mn:=n1,mc:=c1,pA:=P1,pn:=K1,pc:=d1 },rfl,vrow X2.out _,isvm_apart V3 F1.out (ex_row _ _ _) (vbox_nou8 X2.out),sc_m (Sc.refl _) A1 P1 n1 c1 K1 d1,F1.out,G2.out.ex h3 (ex_row _ _ _),below_setRow B2.out (Nat.le_refl _) _,E2.out.row rfl _⟩
end Go.Proofs.YtcmldhjicjmmgaaGreatDoor
