/- Part 19. -/
import Derived.Test.YtcmldhjicjmmgaaGreatDoorXkAQ
import Derived.Test.YtcmldhjicjmmgaaGreatDoorXkAR
import Derived.LaidMore
import Derived.LaidHandle
import Derived.Lib.LaidTab
import Derived.Stop.LaidErr
import Derived.Stop.Joined
import Derived.LaidEql
import Derived.Stop.Asserts
import Derived.RowKitTokens
set_option linter.unusedVariables false
set_option linter.unusedSimpArgs false
set_option maxRecDepth 100000
set_option maxHeartbeats 4000000

namespace Go.Proofs.YtcmldhjicjmmgaaGreatDoor
open Go.RowKit


structure Glob (a : Addr) (w : World) : Prop where
  h : w.cell? ⟨0,0,none⟩ = some (.iface 324 (.pointer (some a)))
  t : w.cell? ⟨1,0,none⟩ = some (.iface 131 (.agg #[.pointer (some ⟨8,68,none⟩)]))
  tab : Tab w
  lo : 3 ≤ w.heap.size
theorem Glob.keep {a : Addr} {w w' : World} (h : Glob a w) (b : Below w.heap.size w w') : Glob a w':=⟨(b.cell (p:=⟨0,0,none⟩) (Nat.lt_of_lt_of_le (by decide) h.lo)).trans h.h,(b.cell (p:=⟨1,0,none⟩) (Nat.lt_of_lt_of_le (by decide) h.lo)).trans h.t,h.tab.keep b,Nat.le_trans h.lo b.size⟩
theorem Glob.ex {a : Addr} {w w' : World} {b : Nat} (h : Glob a w) (h8 : 3 ≤ b) (x : Ex (fun g => g = b) w w') : Glob a w':=by
  have hc : ∀ g i,g < 3 → w'.cell? ⟨g,i,none⟩ = w.cell? ⟨g,i,none⟩:=fun g i hg => by
    unfold World.cell?;rw [x.same g (Nat.lt_of_lt_of_le hg h.lo) (by omega)]
  exact ⟨(hc _ _ (by decide)).trans h.h,(hc _ _ (by decide)).trans h.t,fun c hl => (hc _ _ (by decide)).trans (h.tab c hl),Nat.le_trans h.lo x.size⟩
structure RS where
  a : Addr
  X : Nat → Prop
  k : VmK
  L : VmL
  ip : Int
  wv : Int
  d : Bool
  fu : Int
structure WkR (w : World) (b : Nat) (S : RS) (e : Value) (r : RnK) : Prop where
  box : WkBox w b r e
  vm : IsVm w r.v S.L
  sc : Sc r.v S.k
  fr : ∀ g,S.X g ∨ (b ≤ g + 2 ∧ g ≤ b) → Free r.v g
  ip : r.ip = S.ip
  wv : r.wv = S.wv
  d : r.dob = S.d
  fu : r.fu = S.fu
  ne : ∀ i,e ≠ .int .u8 i
  gl : Glob S.a w
  b8 : 3 ≤ b
  xb : ∀ g,S.X g → g < b
def Wk (w : World) (b : Nat) (S : RS) (e : Value) : Prop:=∃ r,WkR w b S e r
theorem WkR.fr1 {w : World} {b : Nat} {S : RS} {e : Value} {r : RnK} (h : WkR w b S e r) : Free r.v b:=h.fr b (.inr ⟨Nat.le_add_right _ _,Nat.le_refl _⟩)
theorem WkR.keep {w w' : World} {b : Nat} {S : RS} {e : Value} {r : RnK} (h : WkR w b S e r) (x : Below w.heap.size w w') : WkR w' b S e r:=⟨h.box.keep x,h.vm.keep x,h.sc,h.fr,h.ip,h.wv,h.d,h.fu,h.ne,h.gl.keep x,h.b8,h.xb⟩
theorem Wk.keep {w w' : World} {b : Nat} {S : RS} {e : Value} (h : Wk w b S e) (x : Below w.heap.size w w') : Wk w' b S e:=h.imp fun _ h => h.keep x
theorem Wk.lt {w : World} {b : Nat} {S : RS} {e : Value} (h : Wk w b S e) : b < w.heap.size:=by obtain ⟨r,h⟩:=h; exact h.box.lt
theorem Wk.cip {w : World} {b : Nat} {S : RS} {e : Value} (h : Wk w b S e) : w.cell? ⟨b,23,none⟩ = some (.int .i64 S.ip):=by obtain ⟨r,h⟩:=h; rw [← h.ip]; exact h.box.c23
theorem Wk.cw {w : World} {b : Nat} {S : RS} {e : Value} (h : Wk w b S e) : w.cell? ⟨b,24,none⟩ = some (.int .i64 S.wv):=by obtain ⟨r,h⟩:=h; rw [← h.wv]; exact h.box.c24
theorem Wk.cd {w : World} {b : Nat} {S : RS} {e : Value} (h : Wk w b S e) : w.cell? ⟨b,25,none⟩ = some (.bool S.d):=by obtain ⟨r,h⟩:=h; rw [← h.d]; exact h.box.c25
theorem Wk.ce {w : World} {b : Nat} {S : RS} {e : Value} (h : Wk w b S e) : w.cell? ⟨b,27,none⟩ = some e:=by obtain ⟨r,h⟩:=h; exact h.box.c27
theorem Wk.fr {w : World} {b : Nat} {S : RS} {e : Value} (h : Wk w b S e) (i : Nat) : w.frozen? ⟨b,i,none⟩ = false:=by obtain ⟨r,h⟩:=h; exact h.box.fr i
theorem ex_cell (w : World) (b i : Nat) (v : Value) : Ex (fun g => g = b) w (w.setCell ⟨b,i,none⟩ v):=(Ex.refl _ _).cell (X:=fun g => g = b) rfl v
theorem ex_row (w : World) (b : Nat) (cs : Array Value) : Ex (fun g => g = b) w (w.setRow b cs):=(Ex.refl _ _).row (X:=fun g => g = b) (b:=b) rfl cs
theorem Wk.set_ip {w : World} {b : Nat} {S : RS} {e : Value} (h : Wk w b S e) (x : Int) : Wk (w.setCell ⟨b,23,none⟩ (.int .i64 x)) b { S with ip:=x } e:=by
  obtain ⟨r,h⟩:=h;exact ⟨{ r with ip:=x },h.box.set_ip x,isvm_apart h.vm h.fr1 (ex_cell _ _ _ _) (wk_nou8 h.box h.ne),h.sc,h.fr,rfl,h.wv,h.d,h.fu,h.ne,h.gl.ex h.b8 (ex_cell _ _ _ _),h.b8,h.xb⟩
theorem Wk.set_w {w : World} {b : Nat} {S : RS} {e : Value} (h : Wk w b S e) (x : Int) : Wk (w.setCell ⟨b,24,none⟩ (.int .i64 x)) b { S with wv:=x } e:=by
  obtain ⟨r,h⟩:=h;exact ⟨{ r with wv:=x },h.box.set_wv x,isvm_apart h.vm h.fr1 (ex_cell _ _ _ _) (wk_nou8 h.box h.ne),h.sc,h.fr,h.ip,rfl,h.d,h.fu,h.ne,h.gl.ex h.b8 (ex_cell _ _ _ _),h.b8,h.xb⟩
theorem Wk.set_d {w : World} {b : Nat} {S : RS} {e : Value} (h : Wk w b S e) (x : Bool) : Wk (w.setCell ⟨b,25,none⟩ (.bool x)) b { S with d:=x } e:=by
  obtain ⟨r,h⟩:=h;exact ⟨{ r with dob:=x },h.box.set_dob x,isvm_apart h.vm h.fr1 (ex_cell _ _ _ _) (wk_nou8 h.box h.ne),h.sc,h.fr,h.ip,h.wv,rfl,h.fu,h.ne,h.gl.ex h.b8 (ex_cell _ _ _ _),h.b8,h.xb⟩
theorem Wk.set_e {w : World} {b : Nat} {S : RS} {e : Value} (h : Wk w b S e) (f : Value) (hf : ∀ i,f ≠ .int .u8 i) : Wk (w.setCell ⟨b,27,none⟩ f) b S f:=by
  obtain ⟨r,h⟩:=h;exact ⟨r,h.box.set_e f,isvm_apart h.vm h.fr1 (ex_cell _ _ _ _) (wk_nou8 h.box h.ne),h.sc,h.fr,h.ip,h.wv,h.d,h.fu,hf,h.gl.ex h.b8 (ex_cell _ _ _ _),h.b8,h.xb⟩
theorem WkR.put {w w1 : World} {b : Nat} {S : RS} {e : Value} {r : RnK} (h : WkR w b S e r) {j K : VmK} {L : VmL} (bb : Below w.heap.size w w1) (hv : IsVm w1 j L) (hs : Sc j K) (hl : RLoc w.heap.size j r.v) :
    Wk (w1.setRow b (wkC { r with v:=j } e)) b { S with k:=K,L:=L } e:=by
  have hb:=h.box.keep bb;have hf : ∀ g,S.X g ∨ (b ≤ g + 2 ∧ g ≤ b) → Free j g:=fun g hg => free_rloc hl (h.fr g hg) (hg.elim (fun q => Nat.lt_trans (h.xb g q) h.box.lt) fun q => Nat.lt_of_le_of_lt q.2 h.box.lt)
  exact ⟨{ r with v:=j },wkrow hb _ _,isvm_apart hv (hf b (.inr ⟨Nat.le_add_right _ _,Nat.le_refl _⟩)) (ex_row _ _ _) (wk_nou8 hb h.ne),hs,hf,h.ip,h.wv,h.d,h.fu,h.ne,(h.gl.keep bb).ex h.b8 (ex_row _ _ _),h.b8,h.xb⟩
theorem below_put {w w1 : World} {b : Nat} (hb : b < w.heap.size) (bb : Below w.heap.size w w1) (cs : Array Value) : Below b w (w1.setRow b cs):=below_setRow (bb.mono (Nat.le_of_lt hb)) (Nat.le_refl _) cs
def WPost (b : Nat) (w : World) (S : RS) (x : Value) (e : Ending) (w' : World) : Prop:=e = .returned (.tuple #[]) ∧ Wk w' b S x ∧ Below b w w'
def VPost (v : Value) (b : Nat) (w : World) (S : RS) (e : Ending) (w' : World) : Prop:=e = .returned v ∧ Wk w' b S .nilIface ∧ Below b w w'
def WGo0 (f : FuncId) (S S' : RS) (x : Value) : Prop:=∀ b w,Wk w b S .nilIface → Calls Tryz.prog f #[.pointer (some ⟨b,0,none⟩)] w (WPost b w S' x)
def WGo1 (f : FuncId) (n : Int) (S S' : RS) (x : Value) : Prop:=∀ b w,Wk w b S .nilIface → Calls Tryz.prog f #[.pointer (some ⟨b,0,none⟩),.int .i64 n] w (WPost b w S' x)
def WGo2 (f : FuncId) (n m : Int) (S S' : RS) (x : Value) : Prop:=∀ b w,Wk w b S .nilIface → Calls Tryz.prog f #[.pointer (some ⟨b,0,none⟩),.int .i64 n,.int .i64 m] w (WPost b w S' x)
def VGo0 (f : FuncId) (v : Value) (S S' : RS) : Prop:=∀ b w,Wk w b S .nilIface → Calls Tryz.prog f #[.pointer (some ⟨b,0,none⟩)] w (VPost v b w S')
def VGo1 (f : FuncId) (n : Int) (v : Value) (S S' : RS) : Prop:=∀ b w,Wk w b S .nilIface → Calls Tryz.prog f #[.pointer (some ⟨b,0,none⟩),.int .i64 n] w (VPost v b w S')
theorem RS.same (S : RS) : { S with k:=S.k,L:=S.L } = S:=rfl
open Go.RowKit Go.Lib Go.ChangeShapes Go.WideShapes Go.ChangeAt


abbrev laidL : List (String × DataW Unit) := [("errors.errorType", Rows.laid_errors_errorType), ("unicode.White_Space", Rows.laid_unicode_White_Space), ("strings.asciiSpace", Rows.laid_strings_asciiSpace), ("detent/inner.errHalt", Rows.laid_detent_inner_errHalt)]
theorem gSpace : Tryz.prog.globalNamed "strings.asciiSpace" = some 2 := by kernel_rfl
theorem gSpaceType : (Tryz.prog.globals[2]?).map (·.type) = some 176:=by kernel_rfl
theorem cells_u8 : Tryz.prog.cellsOf 5 = 1:=by kernel_rfl
theorem cells_tab : Tryz.prog.cellsOf 176 = 256:=by kernel_rfl
theorem laid_is : (Rows.laid_strings_asciiSpace : DataW Unit) = tabData .u8 asciiSpaceTab:=by kernel_rfl
theorem gErr : Tryz.prog.globalNamed "errors.errorType" = some 1 := by kernel_rfl
theorem rtypeRow : (Tryz.prog.cutTypes.find? (·.1 == "internal/reflectlite.rtype")).map (·.2) = some 131 := by kernel_rfl
theorem errOne : ((List.range Tryz.prog.types.size).filter fun t => Tryz.prog.rowNamed t [101,114,114,111,114]) = [68]:=by kernel_rfl
theorem gHalt : Tryz.prog.globalNamed "detent/inner.errHalt" = some 0 := by kernel_rfl
theorem gHaltType : (Tryz.prog.globals[0]?).map (·.type) = some 68:=by kernel_rfl
theorem haltStar : "*" ++ "errors.errorString" = "*errors.errorString" := by decide
theorem haltRow (u : TypeId) (h : Tryz.prog.typeName? 3 u = some "*errors.errorString") : u = 324 :=
  typeName_ptr_named (nm := "errors.errorString") (by rw [haltStar]; kernel_rfl) (by kernel_rfl) (by decide) u (by rw [haltStar]; exact h)
theorem cells_es : Tryz.prog.cellsOf 342 = 1:=by kernel_rfl
theorem cells_s : Tryz.prog.cellsOf 9 = 1:=by kernel_rfl
abbrev laidD : List (String × DataW Unit) := [("unicode.White_Space", Rows.laid_unicode_White_Space), ("strings.asciiSpace", Rows.laid_strings_asciiSpace), ("detent/inner.errHalt", Rows.laid_detent_inner_errHalt)]
theorem tab_of {W : World} (h : laidMet Tryz.prog laidD W) : Tab W:=by
  obtain ⟨ps, ⟨g0, t0, cs0, f0, p0, q0, hg0, ht0, hv0, hd0, ⟨g1, t1, cs1, f1, p1, q1, hg1, ht1, hv1, hd1, _, _⟩, _⟩, _, _⟩ := h;obtain rfl := Option.some.inj (gSpace.symm.trans hg1);obtain rfl := Option.some.inj (gSpaceType.symm.trans ht1);have hT : TabIs Tryz.prog W "strings.asciiSpace" .u8 asciiSpaceTab := by
    unfold TabIs;rw [laid_is] at hd1;rw [hv1,← cells_of_tab Tryz.underlying176 Tryz.underlying5 cells_u8 cells_tab hd1]
  intro c hc;rw [hT.cell gSpace c (by rw [asciiSpaceTab_length]; exact hc),asciiSpaceTab_at c hc]
theorem type_of {W : World} (h : handlesMet Tryz.prog [("errors.errorType", Rows.laid_errors_errorType)] W) : W.cell? ⟨1, 0, none⟩ = some (.iface 131 (.agg #[.pointer (some ⟨8, 68, none⟩)])) := by
  obtain ⟨name,u,ty,e1,e2,e3,e4,e5⟩:=h _ (List.mem_singleton.2 rfl);have en : name = [101,114,114,111,114]:=(Option.some.inj e1).symm;subst en;obtain rfl:=Option.some.inj (rtypeRow.symm.trans e2);have hm : ty ∈ (List.range Tryz.prog.types.size).filter fun t => Tryz.prog.rowNamed t [101,114,114,111,114]:=List.mem_filter.2 ⟨List.mem_range.2 e3,e4⟩
  rw [errOne] at hm;obtain rfl:=List.mem_singleton.1 hm;have hh : typeHandle Tryz.prog 68 = .pointer (some ⟨8,68,none⟩):=by kernel_rfl
  rw [hh] at e5;simpa using World.var?_cell gErr e5 0
theorem glob_of {W : World} (h : laidMetH Tryz.prog laidL W) : ∃ a,Glob a W:=by
  have h' : laidMet Tryz.prog laidD W ∧ handlesMet Tryz.prog [("errors.errorType", Rows.laid_errors_errorType)] W := h;have hT := tab_of h'.1;obtain ⟨a, s, hv, _⟩ := laid_sentinel h'.1.tail.tail gHalt gHaltType Tryz.underlying68 haltRow Tryz.underlying324 Tryz.underlying342 rfl rfl Tryz.underlying9 cells_es cells_s;refine ⟨a, by simpa using World.var?_cell gHalt hv 0, type_of h'.2, hT, ?_⟩;have h0 := hT 0 (by decide)
  rcases Nat.lt_or_ge 2 W.heap.size with h2 | h2
  · exact h2
  · simp [World.cell?,Array.getElem?_eq_none h2] at h0
theorem door_met (os : Os) (args : Array Value) : laidMetH Tryz.prog laidL ((World.doorLaid Tryz.prog 2000 os).forCall (fun _ _ => 0) ⟨#[],args,[]⟩).memory :=
  laidMetH_of_parts3 (fuel:=8) (laidMet_of_run' 8 (by kernel_rfl) (by kernel_rfl)) (by kernel_rfl) (by kernel_rfl)


theorem fail_ok (b : Nat) (w : World) : Calls Tryz.prog 59 #[.pointer (some ⟨b,0,none⟩),.int .i64 0] w fun e w' => e = .returned (.tuple #[]) ∧ w = w':=by
  go_enter Tryz.func59,Tryz.ntmps59;go_wp2;refine bodyPost_end (results_none rfl _ _ _) rfl ?_;exact ⟨rfl,rfl⟩
theorem pushC_ok {l : List Int} {c c' : Int} (h : (l.length : Int) < c) (e : c' = c) : pushC l c' = 0:=if_neg (by omega)
theorem rpushC_ok {l : List Int} {c c' : Int} (h : (l.length : Int) < c) (e : c' = c) : rpushC l c' = 0:=if_neg (by omega)
theorem pushL_ok {l : List Int} {c c' : Int} (x : Int) (h : (l.length : Int) < c) (e : c' = c) : pushL l x c' = l ++ [x]:=if_neg (by omega)
theorem popX_ok (l : List Int) (x : Int) : popX (l ++ [x]) = x:=by simp [popX]
theorem popL_ok (l : List Int) (x : Int) : popL (l ++ [x]) = l:=by simp [popL]
theorem popC_ok (l : List Int) (x : Int) : popC (l ++ [x]) = 0:=if_neg (by simp)
theorem rpopC_ok (l : List Int) (x : Int) : rpopC (l ++ [x]) = 0:=if_neg (by simp)
def RS.dS (S : RS) (l : List Int) : RS:={ S with L:={ S.L with d:=l } }
def RS.rS (S : RS) (l : List Int) : RS:={ S with L:={ S.L with r:=l } }
theorem wpush_any (S : RS) (x : Int) (hr : (S.L.d.length : Int) < S.k.cd) (hl : S.L.d.length ≤ 60000) : WGo1 78 x S (S.dS (S.L.d ++ [x])) .nilIface:=by
  intro b w H;obtain ⟨r,h⟩:=H;have X:=zqh h.box;have h0:=zqh h;have HP:=zqh (vpush_loc r.v S.L x w (by have:=h.vm.d.1; omega) h.vm);rw [pushC_ok hr h.sc.cd,pushV,pushL_ok x hr h.sc.cd] at HP;clear h;go_enter Tryz.func78,Tryz.ntmps78;(go_wp2_with (first | (refine wpList_wkvload (by rfl) _ rfl b r _ rfl X.out ?_)));refine HP.out.mono ?_;rintro e w1 ⟨j,rfl,hv,hs,hl,bb⟩;have X1:=zqh (X.out.keep bb);(go_wp2_with (first | (refine wpList_wkvstore (by rfl) _ _ rfl b r _ j rfl rfl X1.out ?_)));refine (fail_ok _ _).mono ?_;rintro e w2 ⟨rfl,rfl⟩;(go_wp2_with fail);refine bodyPost_end (results_none rfl _ _ _) rfl ?_;exact ⟨rfl,h0.out.put (K:=S.k) bb hv (hs.trans h0.out.sc) hl,below_put h0.out.box.lt bb _⟩
theorem wrpush_any (S : RS) (x : Int) (hr : (S.L.r.length : Int) < S.k.cr) (hl : S.L.r.length ≤ 60000) : WGo1 105 x S (S.rS (S.L.r ++ [x])) .nilIface:=by
  intro b w H;obtain ⟨r,h⟩:=H;have X:=zqh h.box;have h0:=zqh h;have HP:=zqh (vrpush_loc r.v S.L x w (by have:=h.vm.r.1; omega) h.vm);rw [rpushC_ok hr h.sc.cr,rpushV,pushL_ok x hr h.sc.cr] at HP;clear h;go_enter Tryz.func105,Tryz.ntmps105;(go_wp2_with (first | (refine wpList_wkvload (by rfl) _ rfl b r _ rfl X.out ?_)));refine HP.out.mono ?_;rintro e w1 ⟨j,rfl,hv,hs,hl,bb⟩;have X1:=zqh (X.out.keep bb);(go_wp2_with (first | (refine wpList_wkvstore (by rfl) _ _ rfl b r _ j rfl rfl X1.out ?_)));refine (fail_ok _ _).mono ?_;rintro e w2 ⟨rfl,rfl⟩;(go_wp2_with fail);refine bodyPost_end (results_none rfl _ _ _) rfl ?_;exact ⟨rfl,h0.out.put (K:=S.k) bb hv (hs.trans h0.out.sc) hl,below_put h0.out.box.lt bb _⟩
theorem wpop_any (S : RS) (l : List Int) (x : Int) (hd : S.L.d = l ++ [x]) (hl : S.L.d.length ≤ 60000) : VGo0 107 (.int .i64 x) S (S.dS l):=by
  intro b w H;obtain ⟨r,h⟩:=H;have X:=zqh h.box;have h0:=zqh h;have HP:=zqh (vpop_loc r.v S.L w (by have:=h.vm.d.1; omega) h.vm);rw [popV,hd,popX_ok,popC_ok,popL_ok] at HP;clear h hd;go_enter Tryz.func107,Tryz.ntmps107;(go_wp2_with (first | (refine wpList_wkvload (by rfl) _ rfl b r _ rfl X.out ?_)));refine HP.out.mono ?_;rintro e w1 ⟨j,rfl,hv,hs,hl,bb⟩;have X1:=zqh (X.out.keep bb);go_upto_region 2 with (refine wpList_vstore (by rfl) _ _ rfl _ vm0 j rfl rfl (vbox_zero _) ?_)
  generalize hw2 : World.setRow _ _ _ = w2;have kb : Below w1.heap.size w1 w2:=by rw [← hw2]; exact below_setRow (al_one _ _) (Nat.le_refl _) _
  have kj : VBox w2 w1.heap.size j:=by rw [← hw2]; exact vrow (vbox_zero w1) j
  clear hw2;have X2:=zqh (X1.out.keep kb);have J2:=zqh kj;have B2:=zqh (below_then bb kb);have V2:=zqh (hv.keep kb);clear bb kb kj hv;(go_wp2_with (first | (refine wpList_vload (by rfl) _ rfl _ j rfl J2.out ?_) | (refine wpList_wkvstore (by rfl) _ _ rfl b r _ j rfl rfl X2.out ?_)));refine (fail_ok _ _).mono ?_;rintro e w3 ⟨rfl,rfl⟩;(go_wp2_with fail);go_ret;exact ⟨rfl,h0.out.put (K:=S.k) B2.out V2.out (hs.trans h0.out.sc) hl,below_put h0.out.box.lt B2.out _⟩
theorem wrpop_any (S : RS) (l : List Int) (x : Int) (hd : S.L.r = l ++ [x]) (hl : S.L.r.length ≤ 60000) : VGo0 110 (.int .i64 x) S (S.rS l):=by
  intro b w H;obtain ⟨r,h⟩:=H;have X:=zqh h.box;have h0:=zqh h;have HP:=zqh (vrpop_loc r.v S.L w (by have:=h.vm.r.1; omega) h.vm);rw [rpopV,hd,popX_ok,rpopC_ok,popL_ok] at HP;clear h hd;go_enter Tryz.func110,Tryz.ntmps110;(go_wp2_with (first | (refine wpList_wkvload (by rfl) _ rfl b r _ rfl X.out ?_)));refine HP.out.mono ?_;rintro e w1 ⟨j,rfl,hv,hs,hl,bb⟩;have X1:=zqh (X.out.keep bb);go_upto_region 2 with (refine wpList_vstore (by rfl) _ _ rfl _ vm0 j rfl rfl (vbox_zero _) ?_)
  generalize hw2 : World.setRow _ _ _ = w2;have kb : Below w1.heap.size w1 w2:=by rw [← hw2]; exact below_setRow (al_one _ _) (Nat.le_refl _) _
  have kj : VBox w2 w1.heap.size j:=by rw [← hw2]; exact vrow (vbox_zero w1) j
  clear hw2;have X2:=zqh (X1.out.keep kb);have J2:=zqh kj;have B2:=zqh (below_then bb kb);have V2:=zqh (hv.keep kb);clear bb kb kj hv;(go_wp2_with (first | (refine wpList_vload (by rfl) _ rfl _ j rfl J2.out ?_) | (refine wpList_wkvstore (by rfl) _ _ rfl b r _ j rfl rfl X2.out ?_)));refine (fail_ok _ _).mono ?_;rintro e w3 ⟨rfl,rfl⟩;(go_wp2_with fail);go_ret;exact ⟨rfl,h0.out.put (K:=S.k) B2.out V2.out (hs.trans h0.out.sc) hl,below_put h0.out.box.lt B2.out _⟩
theorem IsVm.mlen {w : World} {k : VmK} {L : VmL} (h : IsVm w k L) : k.mn = L.m.1.length:=h.m.len1.symm
theorem wfetch_any (S : RS) (p : Int) (hc : cellC S.L.m.1.length p = 0) (hl : S.L.m.1.length ≤ 65536) : VGo1 79 p (.int .i64 (fetchF S.L.m p)) S S:=by
  intro b w H;obtain ⟨r,h⟩:=H;have X:=zqh h.box;have h0:=zqh h;have e:=h.vm.mlen;have HP:=zqh (fetch_at r.v.mA r.v.pA r.v.mn r.v.mc r.v.pn r.v.pc S.L.m p w (zqh h.vm.m) (by omega));rw [show cellC r.v.mn p = 0 from by rw [e]; exact hc] at HP;obtain ⟨V,hV⟩ : ∃ V,fetchF S.L.m p = V:=⟨_,rfl⟩;rw [hV] at HP ⊢;clear h hc e hV;go_enter Tryz.func79,Tryz.ntmps79;(go_wp2_with (first | (refine wpList_wkmload (by rfl) _ rfl b r _ rfl X.out ?_)));refine HP.out.mono ?_;rintro e w1 ⟨rfl,bb⟩;(go_wp2_with fail);refine (fail_ok _ _).mono ?_;rintro e w2 ⟨rfl,rfl⟩;(go_wp2_with fail);go_ret;exact ⟨rfl,⟨r,h0.out.keep bb⟩,bb.mono (Nat.le_of_lt h0.out.box.lt)⟩
open Go.RowKit Go.Extern.Stop Go.Stop Go.Extern


abbrev thrV (c : Int) : Value:=.iface 91 (.agg #[.int .i64 c])
abbrev frmV (at_ : Int) (e : Value) : Value:=.iface 93 (.agg #[.int .i64 at_,e])
abbrev endV (a : Addr) : Value:=.iface 324 (.pointer (some a))

theorem Tryz.isTypeOf (v : Value) (w : World) : (Extern.ReflectliteType.typeOf #[.iface 324 v]).run Tryz.prog w = .ok (.iface 131 (.agg #[.pointer (some ⟨8,324,none⟩)])) w:=by kernel_rfl
def cmpE : Array Value → Sem Value := Extern.ReflectliteType.method fun t => do Extern.Rtype.noPackHeld "Comparable" t; pure (.bool (← typeInfo t).comparable)
theorem Tryz.isComparable (w : World) : (cmpE #[.agg #[.pointer (some ⟨8,324,none⟩)]]).run Tryz.prog w = .ok (.bool true) w:=by kernel_rfl
theorem Tryz.isMethodComparable (v : Value) (w : World) : (Go.method 453 131 v "Comparable").run Tryz.prog w = .ok (333, v) w := by kernel_rfl
theorem Tryz.isComp : (Tryz.prog.info? 324).map (·.comparable) = some true:=by kernel_rfl
theorem Tryz.isSize : (Tryz.prog.info? 342).map (·.size) = some 1:=by kernel_rfl
theorem Tryz.noIsF (v : Value) (xT : TypeId) (w : World) : (Instr.typeAssert (.iface 93 v) xT 133 true).run Tryz.prog w = .ok (.tuple #[.nilIface,.bool false]) w:=run_typeAssert_lacksB Tryz.underlying133 (by kernel_rfl) (by kernel_rfl) v xT w
theorem Tryz.noIsT (v : Value) (xT : TypeId) (w : World) : (Instr.typeAssert (.iface 91 v) xT 133 true).run Tryz.prog w = .ok (.tuple #[.nilIface,.bool false]) w:=run_typeAssert_lacksB Tryz.underlying133 (by kernel_rfl) (by kernel_rfl) v xT w
theorem Tryz.hasUnF (v : Value) (xT : TypeId) (w : World) : (Instr.typeAssert (.iface 93 v) xT 136 true).run Tryz.prog w = .ok (.tuple #[.iface 93 v,.bool true]) w:=run_typeAssert_hasB Tryz.underlying136 (by kernel_rfl) v xT w
theorem Tryz.noUnT (v : Value) (xT : TypeId) (w : World) : (Instr.typeAssert (.iface 91 v) xT 136 true).run Tryz.prog w = .ok (.tuple #[.nilIface,.bool false]) w:=run_typeAssert_lacksB Tryz.underlying136 (by kernel_rfl) (by kernel_rfl) v xT w
theorem Tryz.noUnsT (v : Value) (xT : TypeId) (w : World) : (Instr.typeAssert (.iface 91 v) xT 138 true).run Tryz.prog w = .ok (.tuple #[.nilIface,.bool false]) w:=run_typeAssert_lacksB Tryz.underlying138 (by kernel_rfl) (by kernel_rfl) v xT w
theorem Tryz.noAsF (v : Value) (xT : TypeId) (w : World) : (Instr.typeAssert (.iface 93 v) xT 165 true).run Tryz.prog w = .ok (.tuple #[.nilIface,.bool false]) w:=run_typeAssert_lacksB Tryz.underlying165 (by kernel_rfl) (by kernel_rfl) v xT w
theorem Tryz.methodUnwrap (v : Value) (w : World) : (Go.method 453 93 v "Unwrap").run Tryz.prog w = .ok (330, v) w := by kernel_rfl
theorem is_end (at_ : Int) (a : Addr) (w : World) :
    Calls Tryz.prog 28 #[frmV at_ (endV a),endV a] w fun e w' => e = .returned (.bool true) ∧ Below w.heap.size w w':=by
  obtain ⟨i,hi,hcmp⟩:=Option.map_eq_some_iff.1 Tryz.isComp;obtain ⟨j,hj,hjs⟩:=Option.map_eq_some_iff.1 Tryz.isSize;have h8:=@run_callFunc_extern Tryz.prog 40 _ Extern.ReflectliteType.typeOf Tryz.func40 (by kernel_rfl) (by kernel_rfl) (by kernel_rfl) (by kernel_rfl);have h32:=@run_callFunc_extern Tryz.prog 333 _ cmpE Tryz.func333 (by kernel_rfl) (by kernel_rfl) (by kernel_rfl) (by kernel_rfl);have tT:=Tryz.isTypeOf;have cT:=Tryz.isComparable;have mR:=Tryz.isMethodComparable;have nF:=Tryz.noIsF;have uF:=Tryz.hasUnF;have mU:=Tryz.methodUnwrap;have heq:=fun (w : World) => run_eql_iface_ptr_same (P:=Tryz.prog) w a Tryz.underlying68 Tryz.underlying324 hi hcmp hj
  have hne:=fun (x y : Value) (w : World) => run_eql_iface_types (P:=Tryz.prog) 93 324 x y Tryz.underlying68 (by decide) w
  go_enter Tryz.func28,Tryz.ntmps28;go_wp2;refine wp_loop_rounds 2 ?_;rw [rounds_succ];go_wp2;rw [rounds_succ];go_wp2;go_ret;exact ⟨rfl,below_one _ _⟩
theorem is_code (at_ c : Int) (a : Addr) (w : World) :
    Calls Tryz.prog 28 #[frmV at_ (thrV c),endV a] w fun e w' => e = .returned (.bool false) ∧ Below w.heap.size w w':=by
  have h8:=@run_callFunc_extern Tryz.prog 40 _ Extern.ReflectliteType.typeOf Tryz.func40 (by kernel_rfl) (by kernel_rfl) (by kernel_rfl) (by kernel_rfl);have h32:=@run_callFunc_extern Tryz.prog 333 _ cmpE Tryz.func333 (by kernel_rfl) (by kernel_rfl) (by kernel_rfl) (by kernel_rfl);have tT:=Tryz.isTypeOf;have cT:=Tryz.isComparable;have mR:=Tryz.isMethodComparable;have nF:=Tryz.noIsF;have nT:=Tryz.noIsT;have uF:=Tryz.hasUnF;have uT:=Tryz.noUnT;have sT:=Tryz.noUnsT;have mU:=Tryz.methodUnwrap;have hne:=fun (x y : Value) (w : World) => run_eql_iface_types (P:=Tryz.prog) 93 324 x y Tryz.underlying68 (by decide) w
  have hnt:=fun (x y : Value) (w : World) => run_eql_iface_types (P:=Tryz.prog) 91 324 x y Tryz.underlying68 (by decide) w
  go_enter Tryz.func28,Tryz.ntmps28;go_wp2;refine wp_loop_rounds 2 ?_;rw [rounds_succ];go_wp2;rw [rounds_succ];go_wp2;go_ret;exact ⟨rfl,below_one _ _⟩

def valE : Array Value → Sem Value:=fun args => Extern.ReflectliteValue.unpack (args.getD 0 (.tuple #[]))
def typE : Array Value → Sem Value := Extern.ReflectliteValue.methodAny (Extern.ReflectliteValue.valueError "reflectlite.Value.Type" 0) fun t _ _ _ => Extern.ReflectliteType.toType t
def nilE : Array Value → Sem Value := Extern.ReflectliteValue.method (Extern.ReflectliteValue.valueError "reflectlite.Value.IsNil" 0) Extern.ReflectliteValue.isNil
def kndE : Array Value → Sem Value:=Extern.ReflectliteType.abiMethod fun t => do pure (.int .u8 (← Extern.Rtype.kind t))
def eltE : Array Value → Sem Value:=Extern.ReflectliteType.method Extern.ReflectliteType.elem
def impE : Array Value → Sem Value := Extern.ReflectliteType.relation "Implements" Extern.ReflectliteType.implements_
def assE : Array Value → Sem Value := Extern.ReflectliteType.relation "AssignableTo" Extern.ReflectliteType.assignableTo
def elmE : Array Value → Sem Value := Extern.ReflectliteValue.method (Extern.ReflectliteValue.valueError "reflectlite.Value.Elem" 0) Extern.ReflectliteValue.elem
abbrev rty (t : Nat) : Value:=.agg #[.pointer (some ⟨8,t,none⟩)]
abbrev rtyV (t : Nat) : Value:=.iface 131 (rty t)
theorem Tryz.valP (t : Addr) (w : World) : (valE #[.iface 109 (.pointer (some t))]).run Tryz.prog w = .ok (.agg #[.pointer (some ⟨8,109,none⟩),.pointer (some ⟨w.heap.size,0,none⟩),.int .u64 150]) (w.alloc (.cells #[.pointer (some t)] 109)):=by kernel_rfl
theorem Tryz.typP (a : Addr) (w : World) : (typE #[.agg #[.pointer (some ⟨8,109,none⟩),.pointer (some a),.int .u64 150]]).run Tryz.prog w = .ok (rtyV 109) w:=by kernel_rfl
theorem Tryz.methodKind (h : Value) (w : World) : (Go.method 453 131 (.agg #[h]) "Kind").run Tryz.prog w = .ok (325, h) w := by kernel_rfl
theorem Tryz.kndP (w : World) : (kndE #[.pointer (some ⟨8,109,none⟩)]).run Tryz.prog w = .ok (.int .u8 22) w:=by kernel_rfl
theorem Tryz.kndT (w : World) : (kndE #[.pointer (some ⟨8,91,none⟩)]).run Tryz.prog w = .ok (.int .u8 25) w:=by kernel_rfl
theorem rlm (z : Sem Value) (f : TypeId → Addr → Nat → Nat → Sem Value) (v : Value) :
    Extern.ReflectliteValue.method z f #[v] = (do match ← Extern.ReflectliteValue.parts v with | none => z | some (t,a,fl) => f t a fl (fl % 32)):=rfl
theorem Tryz.partsP (a : Addr) (w : World) : (Extern.ReflectliteValue.parts (.agg #[.pointer (some ⟨8,109,none⟩),.pointer (some a),.int .u64 150])).run Tryz.prog w = .ok (some (109,a,150)) w:=by kernel_rfl
theorem Tryz.nilP (a p : Addr) (W : World) (ha : W.cell? a = some (.pointer (some p))) :
    (nilE #[.agg #[.pointer (some ⟨8,109,none⟩),.pointer (some a),.int .u64 150]]).run Tryz.prog W = .ok (.bool false) W:=by
  unfold nilE;rw [rlm];simp only [Sem.run_bind,Tryz.partsP,Result.andThen];simp [Extern.ReflectliteValue.isNil,loadVar,isAgg,underlying,Tryz.underlying109,ha,Result.andThen]
theorem Tryz.methodElem (h : Value) (w : World) : (Go.method 453 131 (.agg #[h]) "Elem").run Tryz.prog w = .ok (334, .agg #[h]) w := by kernel_rfl
theorem Tryz.methodImplements (h : Value) (w : World) : (Go.method 453 131 (.agg #[h]) "Implements").run Tryz.prog w = .ok (335, .agg #[h]) w := by kernel_rfl
theorem Tryz.methodAssignableTo (h : Value) (w : World) : (Go.method 453 131 (.agg #[h]) "AssignableTo").run Tryz.prog w = .ok (332, .agg #[h]) w := by kernel_rfl
theorem Tryz.eltP (w : World) : (eltE #[rty 109]).run Tryz.prog w = .ok (rtyV 91) w:=by kernel_rfl
theorem Tryz.impT (w : World) : (impE #[rty 91,rtyV 68]).run Tryz.prog w = .ok (.bool true) w:=by kernel_rfl
theorem Tryz.tyF (v : Value) (w : World) : (Extern.ReflectliteType.typeOf #[.iface 93 v]).run Tryz.prog w = .ok (rtyV 93) w:=by kernel_rfl
theorem Tryz.tyT (v : Value) (w : World) : (Extern.ReflectliteType.typeOf #[.iface 91 v]).run Tryz.prog w = .ok (rtyV 91) w:=by kernel_rfl
theorem Tryz.assF (w : World) : (assE #[rty 93,rtyV 91]).run Tryz.prog w = .ok (.bool false) w:=by kernel_rfl
theorem Tryz.assT (w : World) : (assE #[rty 91,rtyV 91]).run Tryz.prog w = .ok (.bool true) w:=by kernel_rfl
theorem Tryz.valT (c : Int) (w : World) : (valE #[thrV c]).run Tryz.prog w = .ok (.agg #[.pointer (some ⟨8,91,none⟩),.pointer (some ⟨w.heap.size,0,none⟩),.int .u64 153]) (w.alloc (.cells #[.int .i64 c] 91)):=by kernel_rfl
theorem Tryz.elemOfP (w : World) : (Extern.Rtype.elem? 109).run Tryz.prog w = .ok (some 91) w:=by kernel_rfl
theorem Tryz.mkT (p : Addr) (w : World) : (Extern.ReflectliteValue.mk 91 p Extern.ReflectliteValue.flagAddr).run Tryz.prog w = .ok (.agg #[.pointer (some ⟨8,91,none⟩),.pointer (some p),.int .u64 409]) w:=by kernel_rfl
theorem Tryz.elmP (a p : Addr) (W : World) (ha : W.cell? a = some (.pointer (some p))) :
    (elmE #[.agg #[.pointer (some ⟨8,109,none⟩),.pointer (some a),.int .u64 150]]).run Tryz.prog W = .ok (.agg #[.pointer (some ⟨8,91,none⟩),.pointer (some p),.int .u64 409]) W:=by
  unfold elmE;rw [rlm];simp only [Sem.run_bind,Tryz.partsP,Result.andThen];simp [Extern.ReflectliteValue.elem,loadVar,isAgg,underlying,Tryz.underlying109,ha,Result.andThen,Tryz.elemOfP,Tryz.mkT]


theorem rls (v x : Value) : Extern.ReflectliteValue.set #[v,x] = (do
    let (some (dst,a,fl),some (src,b,_)):=(← Extern.ReflectliteValue.parts v,← Extern.ReflectliteValue.parts x)
      | unsupported (.noEntry "extern/(internal/reflectlite.Value).Set.zeroValue")
    if fl / Extern.ReflectliteValue.flagAddr % 2 == 0 then unsupported (.noEntry "extern/(internal/reflectlite.Value).Set.unaddressable")
    let val ← loadVar src b
    if ← Extern.Rtype.directlyAssignable dst src then storeVar dst a val
    else if ← Extern.Rtype.implements dst src then
      if (← Extern.Rtype.kind src) == 20 then
        match val with
        | .nilIface => unsupported (.noEntry "extern/reflectlite: a nil value of one interface type handed on as a value of another")
        | _ => storeVar dst a val
      else storeVar dst a (.iface src val)
    else panicString ("reflectlite.Set: value of type " ++ (← Extern.Rtype.spelt src) ++ " is not assignable to type " ++ (← Extern.Rtype.spelt dst))
    pure (.tuple #[])):=rfl
theorem Tryz.partsT1 (a : Addr) (w : World) : (Extern.ReflectliteValue.parts (.agg #[.pointer (some ⟨8,91,none⟩),.pointer (some a),.int .u64 409])).run Tryz.prog w = .ok (some (91,a,409)) w:=by kernel_rfl
theorem Tryz.partsT2 (a : Addr) (w : World) : (Extern.ReflectliteValue.parts (.agg #[.pointer (some ⟨8,91,none⟩),.pointer (some a),.int .u64 153])).run Tryz.prog w = .ok (some (91,a,153)) w:=by kernel_rfl
theorem Tryz.directT (w : World) : (Extern.Rtype.directlyAssignable 91 91).run Tryz.prog w = .ok true w:=by kernel_rfl
theorem thrown_info : (Tryz.prog.info? 91).map (·.size) = some 1:=by kernel_rfl
theorem Tryz.setT (t h : Nat) (x c : Int) (W : World) (hb : W.heap[h]? = some (.cells #[.int .i64 c] 91)) (ht : W.heap[t]? = some (.cells #[.int .i64 x] 91)) :
    (Extern.ReflectliteValue.set #[.agg #[.pointer (some ⟨8,91,none⟩),.pointer (some ⟨t,0,none⟩),.int .u64 409],.agg #[.pointer (some ⟨8,91,none⟩),.pointer (some ⟨h,0,none⟩),.int .u64 153]]).run Tryz.prog W
      = .ok (.tuple #[]) (W.setRow t #[.int .i64 c]):=by
  rw [rls];have hl:=run_loadVar_row (P:=Tryz.prog) W h 91 91 #[.int .i64 c] (0,0) _ hb Tryz.underlying91 rfl thrown_info;have hs:=run_storeVar_row (P:=Tryz.prog) W t 91 91 #[.int .i64 x] #[.int .i64 c] ht thrown_info rfl (by simp [Value.oneCell']);simp only [Sem.run_bind,Tryz.partsT1,Tryz.partsT2,Result.andThen];simp [Extern.ReflectliteValue.flagAddr,hl,Result.andThen,Tryz.directT,hs]
theorem as_hit (at_ c x : Int) (g t : Nat) (w : World) (hv : w.cell? ⟨g,0,none⟩ = some (.pointer (some ⟨t,0,none⟩))) (ht : w.heap[t]? = some (.cells #[.int .i64 x] 91)) :
    Calls Tryz.prog 68 #[frmV at_ (thrV c),.iface 109 (.pointer (some ⟨t,0,none⟩)),.agg #[.pointer (some ⟨8,109,none⟩),.pointer (some ⟨g,0,none⟩),.int .u64 150],rtyV 91] w
      fun e w' => e = .returned (.bool true) ∧ w' = (((w.alloc (.cells #[.pointer (some ⟨8,109,none⟩),.pointer (some ⟨g,0,none⟩),.int .u64 150] 146)).alloc (.cells #[.int .i64 at_,thrV c] 93)).alloc (.cells #[.int .i64 c] 91)).setRow t #[.int .i64 c]:=by
  have h40:=@run_callFunc_extern Tryz.prog 40 _ Extern.ReflectliteType.typeOf Tryz.func40 (by kernel_rfl) (by kernel_rfl) (by kernel_rfl) (by kernel_rfl);have hAs:=@run_callFunc_extern Tryz.prog 332 _ assE Tryz.func332 (by kernel_rfl) (by kernel_rfl) (by kernel_rfl) (by kernel_rfl);have hVo:=@run_callFunc_extern Tryz.prog 65 _ valE Tryz.func65 (by kernel_rfl) (by kernel_rfl) (by kernel_rfl) (by kernel_rfl);have hEl:=@run_callFunc_extern Tryz.prog 88 _ elmE Tryz.func88 (by kernel_rfl) (by kernel_rfl) (by kernel_rfl) (by kernel_rfl);have hSe:=@run_callFunc_extern Tryz.prog 89 _ Extern.ReflectliteValue.set Tryz.func89 (by kernel_rfl) (by kernel_rfl) (by kernel_rfl) (by kernel_rfl);have tF:=Tryz.tyF;have tT:=Tryz.tyT;have mA:=Tryz.methodAssignableTo;have aF:=Tryz.assF;have aT:=Tryz.assT;have nA:=Tryz.noAsF;have uF:=Tryz.hasUnF;have mU:=Tryz.methodUnwrap;have vT:=Tryz.valT;have hgl : g < w.heap.size:=World.block_lt_of_cell? _ _ hv;have htl : t < w.heap.size:=(Array.getElem?_eq_some_iff.1 ht).1;have hb1 : Below w.heap.size w ((w.alloc (.cells #[.pointer (some ⟨8,109,none⟩),.pointer (some ⟨g,0,none⟩),.int .u64 150] 146)).alloc (.cells #[.int .i64 at_,thrV c] 93)):=al_two _ _ _;have el:=Tryz.elmP ⟨g,0,none⟩ ⟨t,0,none⟩ ((w.alloc (.cells #[.pointer (some ⟨8,109,none⟩),.pointer (some ⟨g,0,none⟩),.int .u64 150] 146)).alloc (.cells #[.int .i64 at_,thrV c] 93)) ((hb1.cell (p:=⟨g,0,none⟩) hgl).trans hv);have st:=Tryz.setT t (w.heap.size + 1 + 1) x c (((w.alloc (.cells #[.pointer (some ⟨8,109,none⟩),.pointer (some ⟨g,0,none⟩),.int .u64 150] 146)).alloc (.cells #[.int .i64 at_,thrV c] 93)).alloc (.cells #[.int .i64 c] 91))
    (by have:=heap_alloc_new ((w.alloc (.cells #[.pointer (some ⟨8,109,none⟩),.pointer (some ⟨g,0,none⟩),.int .u64 150] 146)).alloc (.cells #[.int .i64 at_,thrV c] 93)) (.cells #[.int .i64 c] 91); simpa using this)
    ((((hb1.trans (below_one _ _ |>.mono hb1.size))).block t htl).trans ht)
  clear hv ht hb1;go_enter Tryz.func68,Tryz.ntmps68;go_wp2;refine wp_loop_rounds 2 ?_;rw [rounds_succ];go_wp2;rw [rounds_succ];go_wp2;go_ret;exact ⟨rfl,rfl⟩
end Go.Proofs.YtcmldhjicjmmgaaGreatDoor
