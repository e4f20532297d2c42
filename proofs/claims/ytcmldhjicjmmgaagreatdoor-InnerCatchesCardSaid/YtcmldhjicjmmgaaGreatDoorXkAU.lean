/- Part 21. -/
import Derived.Test.YtcmldhjicjmmgaaGreatDoorXkAT
import Derived.Deep.LoopGhost
import Derived.Deep.Light
set_option linter.unusedVariables false
set_option linter.unusedSimpArgs false
set_option maxRecDepth 100000
set_option maxHeartbeats 4000000

namespace Go.Proofs.YtcmldhjicjmmgaaGreatDoor
open Go.RowKit


theorem RIs.across {w : World} {j r r1 : RnK} {S : RS} {b : Nat} (R : RIs w j S) (hx : RBox w b r) (hX : S.X b) : RIs (w.setRow b (rnC r1)) j S :=
  ⟨isvm_apart R.vm (R.fr b hX) (ex_row _ _ _) (rbox_nou8 hx),R.sc,R.ip,R.wv,R.d,R.fu,R.fr,fun g q => by rw [size_setRow]; exact R.xb g q⟩
theorem RIs.less {w : World} {j : RnK} {S : RS} {X X' : Nat → Prop} (R : RIs w j { S with X:=X' }) (h : ∀ g,X g → X' g) : RIs w j { S with X:=X }:=⟨R.vm,R.sc,R.ip,R.wv,R.d,R.fu,fun g q => R.fr g (h g q),fun g q => R.xb g (h g q)⟩
def Lets (xt : Int) (S S' : RS) (x : Value) : Prop:=∀ X,WGo1 39 xt { S with X:=X } { S' with X:=X } x
def Nexts (S : RS) (xt : Int) (S1 : RS) : Prop:=∀ X,NextGo { S with X:=X,fu:=S.fu - 1 } xt { S1 with X:=X }
def StepPost (S : RS) (X : Nat → Prop) (ov : Bool) (c : Int) (w : World) (e : Ending) (w' : World) : Prop:=∃ j,e = .returned (.tuple #[rnV j,.bool ov,.int .i64 c]) ∧ RIs w' j { S with X:=X } ∧ Below w.heap.size w w'
def StepTo (S S' : RS) (ov : Bool) (c : Int) : Prop:=∀ X r w,Glob S.a w → RIs w r { S with X:=X } → Calls Tryz.prog 17 #[rnV r] w (StepPost S' X ov c w)
theorem nexts_do (S : RS) (hd : S.d = true) : Nexts S S.wv { S with wv:=0,d:=false,fu:=S.fu - 1 }:=fun X => next_do { S with X:=X,fu:=S.fu - 1 } hd
theorem nexts_cell (S : RS) (hd : S.d = false) (hc : cellC S.L.m.1.length S.ip = 0) (hm : S.L.m.1.length ≤ 65536) : Nexts S (fetchF S.L.m S.ip) { S with ip:=wrap64 (S.ip + 8),fu:=S.fu - 1 }:=fun X => next_cell { S with X:=X,fu:=S.fu - 1 } hd hc hm
theorem step_in {w w' : World} {r : RnK} {S : RS} {X : Nat → Prop} (h : RIs w r { S with X:=X }) (bb : Below w.heap.size w w') (hz : w.heap.size + 2 ≤ w'.heap.size) (F : Int) (hF : F = S.fu - 1) :
    RIs w' { r with fu:=F } { S with X:=fun g => X g ∨ g = w.heap.size ∨ g = w.heap.size + 1,fu:=S.fu - 1 } :=
  ⟨h.vm.keep bb,h.sc,h.ip,h.wv,h.d,hF,fun g q => q.elim (h.fr g) fun q => free_of h.vm (by omega),fun g q => q.elim (fun q => Nat.lt_of_lt_of_le (h.xb g q) bb.size) fun q => by omega⟩
theorem step_ok {S S1 S2 : RS} {xt : Int} (hf : 1 ≤ S.fu) (hg : S.fu ≤ 1000000000) (ha : S1.a = S.a) (HN : Nexts S xt S1) (HD : Lets xt S1 S2 .nilIface) : StepTo S S2 false 0:=by
  intro X r w g h;have H0:=zqh h;have G0:=zqh g;have hfu : Hid (r.fu = S.fu):=h.fu;have HW : Hid (wrap64 (S.fu - 1) = S.fu - 1):=by show _ = _; unfold wrap64; omega
  have N0:=zqh HN;have D0:=zqh HD;have A0:=zqh ha;have g1 : decide (S.fu < 1) = false:=by simp; omega
  clear h g HN HD hg hf ha;go_enter Tryz.func17,Tryz.ntmps17;go_upto_region 1 with fail
  generalize hw1 : World.alloc (World.alloc _ _) _ = w1;obtain ⟨kb,kx,ky⟩:=two_runs w r;have B1 : Hid (Below w.heap.size w w1):=by show Below _ _ _; rw [← hw1]; exact kb
  have X1 : Hid (RBox w1 w.heap.size r):=by show RBox _ _ _; rw [← hw1]; exact kx
  have Y1 : Hid (RBox w1 (w.heap.size + 1) rn0):=by show RBox _ _ _; rw [← hw1]; exact ky
  clear hw1 kb kx ky;have p26:=X1.out.c26;rw [hfu.out] at p26;have f26:=X1.out.fr 26;go_upto_region 4 with fail
  generalize hw2 : World.setCell _ _ _ = w2;have X2 : Hid (RBox w2 w.heap.size { r with fu:=wrap64 (S.fu - 1) }):=by show RBox _ _ _; rw [← hw2]; exact X1.out.set_fu _
  have Y2 : Hid (RBox w2 (w.heap.size + 1) rn0):=by show RBox _ _ _; rw [← hw2]; exact Y1.out.away (by omega)
  have B2 : Hid (Below w.heap.size w w2):=by show Below _ _ _; rw [← hw2]; exact B1.out.setCell (p:=⟨w.heap.size,26,none⟩) (Nat.le_refl _) _
  have R2:=zqh (step_in H0.out B2.out Y2.out.lt (wrap64 (S.fu - 1)) HW.out);clear hw2 p26 f26 X1 Y1 B1;(go_wp2_with (first | (refine wpList_rload (by rfl) _ rfl w.heap.size _ rfl X2.out ?_)));refine (N0.out (fun g => X g ∨ g = w.heap.size ∨ g = w.heap.size + 1) _ w2 R2.out).mono ?_;rintro e w3 ⟨j1,rfl,R3,bb⟩;have X3:=zqh (X2.out.keep bb);have Y3:=zqh (Y2.out.keep bb);have B3:=zqh (B2.out.trans (bb.mono B2.out.size));have Q3:=zqh R3;clear X2 Y2 B2 R2 bb R3;go_upto_region 5 with (first | (refine wpList_rstore (by rfl) _ _ rfl w.heap.size _ j1 rfl rfl X3.out ?_))
  generalize hw4 : World.setRow _ _ _ = w4;have X4 : Hid (RBox w4 w.heap.size j1):=by show RBox _ _ _; rw [← hw4]; exact rrow X3.out _
  have Y4 : Hid (RBox w4 (w.heap.size + 1) rn0):=by show RBox _ _ _; rw [← hw4]; exact Y3.out.away_row (by omega) _
  have B4 : Hid (Below w.heap.size w w4):=by show Below _ _ _; rw [← hw4]; exact below_setRow B3.out (Nat.le_refl _) _
  have R4 : Hid (RIs w4 j1 { S1 with X:=fun g => X g ∨ g = w.heap.size ∨ g = w.heap.size + 1 }):=by show RIs _ _ _; rw [← hw4]; exact Q3.out.across X3.out (.inr (.inl rfl))
  have G4 : Hid (Glob S1.a w4):=by show Glob _ _; rw [A0.out]; exact G0.out.keep B4.out
  clear hw4 X3 Y3 B3 Q3;(go_wp2_with (first | (refine wpList_rload (by rfl) _ rfl w.heap.size _ rfl X4.out ?_)));refine (done_ok (D0.out (fun g => X g ∨ g = w.heap.size ∨ g = w.heap.size + 1)) j1 w4 G4.out R4.out).mono ?_;rintro e w5 ⟨j2,rfl,R5,bb⟩;have X5:=zqh (X4.out.keep bb);have Y5:=zqh (Y4.out.keep bb);have B5:=zqh (B4.out.trans (bb.mono B4.out.size));have Q5:=zqh R5;clear X4 Y4 B4 R4 G4 bb R5;go_upto_region 7 with (first | (refine wpList_rstore (by rfl) _ _ rfl w.heap.size _ j2 rfl rfl X5.out ?_))
  generalize hw6 : World.setRow _ _ _ = w6;have X6 : Hid (RBox w6 w.heap.size j2):=by show RBox _ _ _; rw [← hw6]; exact rrow X5.out _
  have Y6 : Hid (RBox w6 (w.heap.size + 1) rn0):=by show RBox _ _ _; rw [← hw6]; exact Y5.out.away_row (by omega) _
  have B6 : Hid (Below w.heap.size w w6):=by show Below _ _ _; rw [← hw6]; exact below_setRow B5.out (Nat.le_refl _) _
  have R6 : Hid (RIs w6 j2 { S2 with X:=fun g => X g ∨ g = w.heap.size ∨ g = w.heap.size + 1 }):=by show RIs _ _ _; rw [← hw6]; exact Q5.out.across X5.out (.inr (.inl rfl))
  clear hw6 X5 Y5 B5 Q5;(go_wp2_with (first | (refine wpList_rload (by rfl) _ rfl w.heap.size _ rfl X6.out ?_) | (refine wpList_rstore (by rfl) _ _ rfl (w.heap.size + 1) rn0 j2 rfl rfl Y6.out ?_)));exact bodyPost_ret (res_rtu rfl _ _ _ _ rfl (rrow Y6.out _)) rfl ⟨j2,rfl,(R6.out.across (r1:=j2) Y6.out (.inr (.inr rfl))).less fun g q => .inl q,below_setRow B6.out (by omega) _⟩
theorem step_end {S S1 S2 : RS} {xt : Int} (hf : 1 ≤ S.fu) (hg : S.fu ≤ 1000000000) (ha : S1.a = S.a) (HN : Nexts S xt S1) (HD : Lets xt S1 S2 (.iface 324 (.pointer (some S.a)))) : StepTo S S1 true 0:=by
  intro X r w g h;have H0:=zqh h;have G0:=zqh g;have hfu : Hid (r.fu = S.fu):=h.fu;have HW : Hid (wrap64 (S.fu - 1) = S.fu - 1):=by show _ = _; unfold wrap64; omega
  have N0:=zqh HN;have D0:=zqh HD;have A0:=zqh ha;have g1 : decide (S.fu < 1) = false:=by simp; omega
  clear h g HN HD hg hf ha;go_enter Tryz.func17,Tryz.ntmps17;go_upto_region 1 with fail
  generalize hw1 : World.alloc (World.alloc _ _) _ = w1;obtain ⟨kb,kx,ky⟩:=two_runs w r;have B1 : Hid (Below w.heap.size w w1):=by show Below _ _ _; rw [← hw1]; exact kb
  have X1 : Hid (RBox w1 w.heap.size r):=by show RBox _ _ _; rw [← hw1]; exact kx
  have Y1 : Hid (RBox w1 (w.heap.size + 1) rn0):=by show RBox _ _ _; rw [← hw1]; exact ky
  clear hw1 kb kx ky;have p26:=X1.out.c26;rw [hfu.out] at p26;have f26:=X1.out.fr 26;go_upto_region 4 with fail
  generalize hw2 : World.setCell _ _ _ = w2;have X2 : Hid (RBox w2 w.heap.size { r with fu:=wrap64 (S.fu - 1) }):=by show RBox _ _ _; rw [← hw2]; exact X1.out.set_fu _
  have Y2 : Hid (RBox w2 (w.heap.size + 1) rn0):=by show RBox _ _ _; rw [← hw2]; exact Y1.out.away (by omega)
  have B2 : Hid (Below w.heap.size w w2):=by show Below _ _ _; rw [← hw2]; exact B1.out.setCell (p:=⟨w.heap.size,26,none⟩) (Nat.le_refl _) _
  have R2:=zqh (step_in H0.out B2.out Y2.out.lt (wrap64 (S.fu - 1)) HW.out);clear hw2 p26 f26 X1 Y1 B1;(go_wp2_with (first | (refine wpList_rload (by rfl) _ rfl w.heap.size _ rfl X2.out ?_)));refine (N0.out (fun g => X g ∨ g = w.heap.size ∨ g = w.heap.size + 1) _ w2 R2.out).mono ?_;rintro e w3 ⟨j1,rfl,R3,bb⟩;have X3:=zqh (X2.out.keep bb);have Y3:=zqh (Y2.out.keep bb);have B3:=zqh (B2.out.trans (bb.mono B2.out.size));have Q3:=zqh R3;clear X2 Y2 B2 R2 bb R3;go_upto_region 5 with (first | (refine wpList_rstore (by rfl) _ _ rfl w.heap.size _ j1 rfl rfl X3.out ?_))
  generalize hw4 : World.setRow _ _ _ = w4;have X4 : Hid (RBox w4 w.heap.size j1):=by show RBox _ _ _; rw [← hw4]; exact rrow X3.out _
  have Y4 : Hid (RBox w4 (w.heap.size + 1) rn0):=by show RBox _ _ _; rw [← hw4]; exact Y3.out.away_row (by omega) _
  have B4 : Hid (Below w.heap.size w w4):=by show Below _ _ _; rw [← hw4]; exact below_setRow B3.out (Nat.le_refl _) _
  have R4 : Hid (RIs w4 j1 { S1 with X:=fun g => X g ∨ g = w.heap.size ∨ g = w.heap.size + 1 }):=by show RIs _ _ _; rw [← hw4]; exact Q3.out.across X3.out (.inr (.inl rfl))
  have G4 : Hid (Glob S1.a w4):=by show Glob _ _; rw [A0.out]; exact G0.out.keep B4.out
  clear hw4 X3 Y3 B3 Q3;(go_wp2_with (first | (refine wpList_rload (by rfl) _ rfl w.heap.size _ rfl X4.out ?_)));refine (done_err (D0.out (fun g => X g ∨ g = w.heap.size ∨ g = w.heap.size + 1)) j1 w4 G4.out R4.out).mono ?_;rintro e w5 ⟨j2,rfl,R5,bb⟩;have X5:=zqh (X4.out.keep bb);have Y5:=zqh (Y4.out.keep bb);have B5:=zqh (B4.out.trans (bb.mono B4.out.size));have Q5:=zqh R5;clear X4 Y4 B4 R4 G4 bb R5;go_upto_region 7 with (first | (refine wpList_rstore (by rfl) _ _ rfl w.heap.size _ j2 rfl rfl X5.out ?_))
  generalize hw6 : World.setRow _ _ _ = w6;have X6 : Hid (RBox w6 w.heap.size j2):=by show RBox _ _ _; rw [← hw6]; exact rrow X5.out _
  have Y6 : Hid (RBox w6 (w.heap.size + 1) rn0):=by show RBox _ _ _; rw [← hw6]; exact Y5.out.away_row (by omega) _
  have B6 : Hid (Below w.heap.size w w6):=by show Below _ _ _; rw [← hw6]; exact below_setRow B5.out (Nat.le_refl _) _
  have R6 : Hid (RIs w6 j2 { S1 with X:=fun g => X g ∨ g = w.heap.size ∨ g = w.heap.size + 1 }):=by show RIs _ _ _; rw [← hw6]; exact Q5.out.across X5.out (.inr (.inl rfl))
  have G6:=zqh (G0.out.keep B6.out);have PG:=G6.out.h;clear hw6 X5 Y5 B5 Q5;(go_wp2_with fail);refine (is_end _ _ _).mono ?_;rintro e w7 ⟨rfl,bb⟩;have X7:=zqh (X6.out.keep bb);have Y7:=zqh (Y6.out.keep bb);have B7:=zqh (B6.out.trans (bb.mono B6.out.size));have R7:=zqh (R6.out.keep bb);clear X6 Y6 B6 R6 G6 PG bb;(go_wp2_with (first | (refine wpList_rload (by rfl) _ rfl w.heap.size _ rfl X7.out ?_) | (refine wpList_rstore (by rfl) _ _ rfl (w.heap.size + 1) rn0 j2 rfl rfl Y7.out ?_)));exact bodyPost_ret (res_rtu rfl _ _ _ _ rfl (rrow Y7.out _)) rfl ⟨j2,rfl,(R7.out.across (r1:=j2) Y7.out (.inr (.inr rfl))).less fun g q => .inl q,below_setRow B7.out (by omega) _⟩
theorem step_fuel {S : RS} (hf : S.fu < 1) : StepTo S S false (-256):=by
  intro X r w g h;have H0:=zqh h;have hfu : Hid (r.fu = S.fu):=h.fu;clear h g;go_enter Tryz.func17,Tryz.ntmps17;go_upto_region 1 with fail
  generalize hw1 : World.alloc (World.alloc _ _) _ = w1;obtain ⟨kb,kx,ky⟩:=two_runs w r;have B1 : Hid (Below w.heap.size w w1):=by show Below _ _ _; rw [← hw1]; exact kb
  have X1 : Hid (RBox w1 w.heap.size r):=by show RBox _ _ _; rw [← hw1]; exact kx
  have Y1 : Hid (RBox w1 (w.heap.size + 1) rn0):=by show RBox _ _ _; rw [← hw1]; exact ky
  clear hw1 kb kx ky;have p26:=X1.out.c26;rw [hfu.out] at p26;(go_wp2_with (first | (refine wpList_rload (by rfl) _ rfl w.heap.size _ rfl X1.out ?_) | (refine wpList_rstore (by rfl) _ _ rfl (w.heap.size + 1) rn0 r rfl rfl Y1.out ?_)));have bz:=below_setRow B1.out (show w.heap.size ≤ w.heap.size + 1 by omega) (rnC r);exact bodyPost_ret (res_rtu rfl _ _ _ _ rfl (rrow Y1.out _)) rfl ⟨r,rfl,H0.out.keep bz,bz⟩


def bareK (k : VmK) : VmK:={ k with rA:=none,rn:=0,rc:=0,fA:=none,fn:=0,fc:=0 }
def bareL (L : VmL) : VmL:={ L with r:=[],f:=[] }
theorem IsVm.bare {w : World} {k : VmK} {L : VmL} (h : IsVm w k L) : IsVm w (bareK k) (bareL L):=⟨h.m,h.d,row_nil w,⟨none,0,rfl,Nat.le_refl _,(by show 0 ≤ maxLen; exact Nat.zero_le _),.inl rfl⟩,h.dict,h.o,h.q,h.e,h.h⟩
theorem Sc.bare {k j : VmK} (h : Sc k j) : Sc (bareK k) j:=⟨h.cm,h.cd,h.cr,h.cw,h.co,h.here,h.last,h.qo,h.free,h.next,h.arg,h.self,h.now⟩
theorem Free.bare {k : VmK} {b : Nat} (f : Free k b) : Free (bareK k) b:=⟨f.p,f.d,.inl rfl,.inl rfl,f.w,f.e,f.h⟩
theorem res_v1 {fn : Func} {p : Tmp} (h : fn.results = #[.cell p 37]) (tmps : Array Value) (w : World) (b : Nat) (k : VmK) (hp : tmps.getD p undef = .pointer (some ⟨b,0,none⟩)) (hb : VBox w b k) :
    (results fn tmps).run Tryz.prog w = .ok (vmV k) w:=by
  have hp' : tmps[p]?.getD undef = .pointer (some ⟨b,0,none⟩):=by simpa using hp
  simp [results,h,hp',asAddr,vm_load hb]
theorem two_vms (w : World) (k : VmK) : Below w.heap.size w ((w.alloc (.cells (vmC k) 37)).alloc (.cells (vmC vm0) 37)) ∧ VBox ((w.alloc (.cells (vmC k) 37)).alloc (.cells (vmC vm0) 37)) w.heap.size k ∧ VBox ((w.alloc (.cells (vmC k) 37)).alloc (.cells (vmC vm0) 37)) (w.heap.size + 1) vm0 :=
  ⟨(in_two w k _).1,(in_two w k _).2,in_two0 w _⟩
theorem bare_any (k : VmK) (w : World) : Calls Tryz.prog 22 #[vmV k] w fun e w' => e = .returned (vmV (bareK k)) ∧ Below w.heap.size w w':=by
  go_enter Tryz.func22,Tryz.ntmps22;go_upto_region 1 with fail
  generalize hw1 : World.alloc (World.alloc _ _) _ = w1;obtain ⟨kb,kx,ky⟩:=two_vms w k;have B1 : Hid (Below w.heap.size w w1):=by show Below _ _ _; rw [← hw1]; exact kb
  have X1 : Hid (VBox w1 w.heap.size k):=by show VBox _ _ _; rw [← hw1]; exact kx
  have Y1 : Hid (VBox w1 (w.heap.size + 1) vm0):=by show VBox _ _ _; rw [← hw1]; exact ky
  clear hw1 kb kx ky;have p9:=X1.out.use.2.2.2.2.2.2.2.2.2.1;have p10:=X1.out.use.2.2.2.2.2.2.2.2.2.2.1;have f9:=X1.out.free.2.2.2.2.2.2.2.2.2.1;have f10:=X1.out.free.2.2.2.2.2.2.2.2.2.2.1;go_upto_region 2 with fail
  generalize hw2 : World.setCell (World.setCell _ _ _) _ _ = w2;have X2 : Hid (VBox w2 w.heap.size (bareK k)):=by show VBox _ _ _; rw [← hw2]; exact (X1.out.set_r none 0 0).set_f none 0 0
  have Y2 : Hid (VBox w2 (w.heap.size + 1) vm0):=by show VBox _ _ _; rw [← hw2]; exact vset_far (vset_far Y1.out (by omega)) (by omega)
  have B2 : Hid (Below w.heap.size w w2):=by show Below _ _ _; rw [← hw2]; exact (B1.out.setCell (p:=⟨w.heap.size,9,none⟩) (Nat.le_refl _) _).setCell (p:=⟨w.heap.size,10,none⟩) (Nat.le_refl _) _
  clear hw2 p9 p10 f9 f10 X1 Y1 B1;(go_wp2_with (first | (refine wpList_vload (by rfl) _ rfl w.heap.size _ rfl X2.out ?_) | (refine wpList_vstore (by rfl) _ _ rfl (w.heap.size + 1) vm0 (bareK k) rfl rfl Y2.out ?_)));exact bodyPost_ret (res_v1 rfl _ _ _ _ rfl (vrow Y2.out _)) rfl ⟨rfl,below_setRow B2.out (by omega) _⟩
def beginK (k : VmK) (x fu : Int) : RnK:=⟨bareK k,16,x,true,fu⟩
theorem res_r1 {fn : Func} {p : Tmp} (h : fn.results = #[.cell p 55]) (tmps : Array Value) (w : World) (b : Nat) (r : RnK) (hp : tmps.getD p undef = .pointer (some ⟨b,0,none⟩)) (hb : RBox w b r) :
    (results fn tmps).run Tryz.prog w = .ok (rnV r) w:=by
  have hp' : tmps[p]?.getD undef = .pointer (some ⟨b,0,none⟩):=by simpa using hp
  have hl : (loadVar 55 ⟨b,0,none⟩).run Tryz.prog w = .ok (rnV r) w:=run_loadVar_row w b _ _ _ _ _ hb Tryz.underlying55 rfl run_info;simp [results,h,hp',asAddr,hl]
theorem rbegin_any (k : VmK) (x fu : Int) (w : World) : Calls Tryz.prog 16 #[vmV k,.int .i64 x,.int .i64 fu] w fun e w' => e = .returned (rnV (beginK k x fu)) ∧ Below w.heap.size w w':=by
  go_enter Tryz.func16,Tryz.ntmps16;go_upto_region 1 with fail
  generalize hw1 : World.alloc (World.alloc _ _) _ = w1;have B1 : Hid (Below w.heap.size w w1):=by show Below _ _ _; rw [← hw1]; exact al_two _ _ _
  have X1 : Hid (VBox w1 w.heap.size k):=by show VBox _ _ _; rw [← hw1]; exact (in_two w k _).2
  have Y1 : Hid (RBox w1 (w.heap.size + 1) rn0):=by show RBox _ _ _; rw [← hw1]; have:=rbox_new (w.alloc (.cells (vmC k) 37)) rn0; rwa [show (w.alloc (.cells (vmC k) 37)).heap.size = w.heap.size + 1 from by simp] at this
  clear hw1;(go_wp2_with (first | (refine wpList_vload (by rfl) _ rfl w.heap.size _ rfl X1.out ?_)));refine (bare_any k w1).mono ?_;rintro e w2 ⟨rfl,bb⟩;have Y2:=zqh (Y1.out.keep bb);have B2:=zqh (below_then B1.out bb);clear X1 Y1 B1 bb;(go_wp2_with (first | (refine wpList_rstore (by rfl) _ _ rfl (w.heap.size + 1) rn0 (beginK k x fu) rfl rfl Y2.out ?_)));exact bodyPost_ret (res_r1 rfl _ _ _ _ rfl (rrow Y2.out _)) rfl ⟨rfl,below_setRow B2.out (by omega) _⟩
theorem exec_rbv {o : Oper} {a : Act} (x : Operand) (ho : o.op = .load 37 x) (b : Nat) (r : RnK) (hx : a.eval x = .pointer (some ⟨b,0,none⟩)) {u : World} (hb : RBox u b r) : (execOp a.eval o).run Tryz.prog u = .ok (.value (vmV r.v)) u:=by
  unfold execOp;simp only [ho,hx,Instr.loadAt,Instr.sureAddr,Sem.run_bind,Sem.run_pure,Result.andThen_ok,run_loadVar_mid u b 0 _ _ _ hb.range_v Tryz.underlying37 rfl vm_info]
theorem drew_bel8 (w : World) : Below w.heap.size w w.drew:=⟨rfl,rfl,rfl,Nat.le_refl _,fun _ _ => rfl⟩
def Runs : Nat → RS → RS → Int → Prop
  | 0,_,_,_ => False
  | n + 1,S,S',c => (∃ ov,StepTo S S' ov c ∧ (ov = true ∨ c ≠ 0)) ∨ (∃ S1,StepTo S S1 false 0 ∧ S1.a = S.a ∧ Runs n S1 S' c)
theorem Runs.last {n : Nat} {S S' : RS} {c : Int} {ov : Bool} (h : StepTo S S' ov c) (ho : ov = true ∨ c ≠ 0) : Runs (n + 1) S S' c:=.inl ⟨ov,h,ho⟩
theorem Runs.more {n : Nat} {S S1 S' : RS} {c : Int} (h : StepTo S S1 false 0) (e : S1.a = S.a) (r : Runs n S1 S' c) : Runs (n + 1) S S' c:=.inr ⟨S1,h,e,r⟩
structure RunAt (a : Addr) (B b : Nat) (w wr : World) (j : RnK) : Prop where
  box : RBox wr b j
  res : VBox wr (w.heap.size + 1) vm0
  bel : Below w.heap.size w wr
  gl : Glob a wr
abbrev runX (w : World) (b : Nat) : Nat → Prop:=fun g => g = w.heap.size + 1 ∨ g = b
def RunRel (a : Addr) (b : Nat) (w : World) (S' : RS) (c : Int) (n : Nat) (s t : Value) (wr : World) : Prop :=
  ∃ j,RunAt a 0 b w wr j ∧ ((s = .bool false ∧ t = .int .i64 0 ∧ ∃ S1,S1.a = a ∧ RIs wr j { S1 with X:=runX w b } ∧ Runs n S1 S' c) ∨ (∃ ov,s = .bool ov ∧ t = .int .i64 c ∧ (ov = true ∨ c ≠ 0) ∧ RIs wr j { S' with X:=runX w b }))
def RunPost (S' : RS) (c : Int) (w : World) (e : Ending) (w' : World) : Prop:=∃ j,e = .returned (.tuple #[vmV j,.int .i64 S'.fu,.int .i64 c]) ∧ IsVm w' j (bareL S'.L) ∧ Sc j S'.k ∧ Below w.heap.size w w'
theorem begin_is {w w' : World} {k K : VmK} {L : VmL} (h : IsVm w k L) (s : Sc k K) (x fu : Int) (a : Addr) (b : Nat) (hb : w.heap.size + 2 ≤ b) (hz : b < w'.heap.size) (bb : Below w.heap.size w w') :
    RIs w' (beginK k x fu) ⟨a,runX w b,K,bareL L,16,x,true,fu⟩ :=
  ⟨(h.bare).keep bb,s.bare,rfl,rfl,rfl,rfl,fun g q => (free_of h (by rcases q with q | q <;> omega)).bare,fun g q => by rcases q with q | q <;> omega⟩
theorem run_any (n : Nat) {k K : VmK} {L : VmL} {x fu c : Int} {S' : RS} {a : Addr} (w : World) (hf : 0 ≤ fu) (h : IsVm w k L) (s : Sc k K) (g : Glob a w) (HR : Runs n ⟨a,fun _ => False,K,bareL L,16,x,true,fu⟩ S' c) :
    Calls Tryz.prog 11 #[vmV k,.int .i64 x,.int .i64 fu] w (RunPost S' c w):=by
  have H0:=zqh h;have S0:=zqh s;have G0:=zqh g;have R0:=zqh HR;have hmx : max fu 0 = fu:=by omega
  clear h s g HR;go_enter Tryz.func11,Tryz.ntmps11;go_upto_region 1 with fail
  generalize hw1 : World.alloc (World.alloc _ _) _ = w1;obtain ⟨kb,kx,ky⟩:=two_vms w k;have B1 : Hid (Below w.heap.size w w1):=by show Below _ _ _; rw [← hw1]; exact kb
  have X1 : Hid (VBox w1 w.heap.size k):=by show VBox _ _ _; rw [← hw1]; exact kx
  have Y1 : Hid (VBox w1 (w.heap.size + 1) vm0):=by show VBox _ _ _; rw [← hw1]; exact ky
  clear hw1 kb kx ky;(go_wp2_with (first | (refine wpList_vload (by rfl) _ rfl w.heap.size _ rfl X1.out ?_)));refine (rbegin_any k x fu w1).mono ?_;rintro e w2 ⟨rfl,bb⟩;have Y2:=zqh (Y1.out.keep bb);have B2:=zqh (below_then B1.out bb);have L2:=zqh (Y1.out.keep bb).lt;clear X1 Y1 B1 bb;(go_wp2_with (first | (refine wpList_rstore (by rfl) _ _ rfl w2.heap.size rn0 (beginK k x fu) rfl rfl (rbox_new w2 rn0) ?_)));generalize hw3 : World.setRow _ _ _ = w3;have B3 : Hid (Below w.heap.size w w3):=by show Below _ _ _; rw [← hw3]; exact below_then B2.out (below_setRow (al_one _ _) (Nat.le_refl _) _)
  have X3 : Hid (RBox w3 w2.heap.size (beginK k x fu)):=by show RBox _ _ _; rw [← hw3]; exact rrow (rbox_new w2 rn0) _
  have Y3 : Hid (VBox w3 (w.heap.size + 1) vm0):=by show VBox _ _ _; rw [← hw3]; exact Y2.out.keep (below_setRow (al_one _ _) (Nat.le_refl _) _)
  have I3:=zqh (begin_is H0.out S0.out x fu a w2.heap.size (by have:=L2.out; omega) X3.out.lt B3.out);clear hw3 Y2 B2
  go_loopg [10,11] n (fun n s t wr => Hid (RunRel a w2.heap.size w S' c n s t wr))
  case atStart => exact ⟨_,⟨X3.out,Y3.out,B3.out,G0.out.keep B3.out⟩,.inl ⟨rfl,rfl,_,rfl,I3.out,R0.out⟩⟩
  case round =>
    obtain ⟨j,hA,hr⟩:=hrel.out;have X4:=zqh hA.box;have Y4:=zqh hA.res;have B4:=zqh hA.bel;have G4:=zqh hA.gl;clear hrel X3 Y3 B3 I3
    rcases hr with ⟨rfl,rfl,S1,ha,hI,hR⟩ | ⟨ov,rfl,rfl,ho,hI⟩
    · cases gk with
      | zero => exact hR.elim
      | succ m =>
      rcases hR with ⟨ov,hs,ho⟩ | ⟨S2,hs,ha2,hR⟩
      · have HS:=zqh (hs (runX w w2.heap.size) j wr (by rw [ha]; exact hA.gl) hI)
        clear hs hI hA;(go_wp2_with (first | (refine wpList_rload (by rfl) _ rfl w2.heap.size _ rfl X4.out ?_)));refine HS.out.mono ?_;rintro e w5 ⟨j2,rfl,R5,bb⟩;have X5:=zqh (X4.out.keep bb);have Y5:=zqh (Y4.out.keep bb);have B5:=zqh (below_then B4.out bb);have Q5:=zqh R5;have G5:=zqh (G4.out.keep bb);clear X4 Y4 B4 G4 bb R5 HS;(go_wp2_with (first | (refine wpList_rstore (by rfl) _ _ rfl w2.heap.size _ j2 rfl rfl X5.out ?_)))
        go_roundg m
        case measure => go_light; omega
        case rel =>
          go_light
          have bz:=below_setRow B5.out (show w.heap.size ≤ w2.heap.size by have:=L2.out; omega) (rnC j2);exact ⟨j2,⟨rrow X5.out _,vrow_fr Y5.out (by have:=L2.out; omega) _,bz,G5.out.ex (by have:=G0.out.lo; have:=L2.out; omega) (ex_row _ _ _)⟩,.inr ⟨ov,rfl,rfl,ho,Q5.out.across X5.out (.inr rfl)⟩⟩
      · have HS:=zqh (hs (runX w w2.heap.size) j wr (by rw [ha]; exact hA.gl) hI)
        clear hs hI hA;(go_wp2_with (first | (refine wpList_rload (by rfl) _ rfl w2.heap.size _ rfl X4.out ?_)));refine HS.out.mono ?_;rintro e w5 ⟨j2,rfl,R5,bb⟩;have X5:=zqh (X4.out.keep bb);have Y5:=zqh (Y4.out.keep bb);have B5:=zqh (below_then B4.out bb);have Q5:=zqh R5;have G5:=zqh (G4.out.keep bb);clear X4 Y4 B4 G4 bb R5 HS;(go_wp2_with (first | (refine wpList_rstore (by rfl) _ _ rfl w2.heap.size _ j2 rfl rfl X5.out ?_)))
        go_roundg m
        case measure => go_light; omega
        case rel =>
          go_light
          have bz:=below_setRow B5.out (show w.heap.size ≤ w2.heap.size by have:=L2.out; omega) (rnC j2);exact ⟨j2,⟨rrow X5.out _,vrow_fr Y5.out (by have:=L2.out; omega) _,bz,G5.out.ex (by have:=G0.out.lo; have:=L2.out; omega) (ex_row _ _ _)⟩,.inl ⟨rfl,rfl,S2,by rw [ha2,ha],Q5.out.across X5.out (.inr rfl),hR⟩⟩
    · have I4:=zqh hI
      clear hI hA;have hcond : ov = true ∨ (ov = false ∧ (c == 0) = false):=by
        cases ov with
        | true => exact .inl rfl
        | false => exact .inr ⟨rfl,by simpa using ho.resolve_left (by simp)⟩
      clear ho
      rcases hcond with rfl | ⟨rfl,hc0⟩
      · go_wp2_with fail
        refine wp_region_held_drew (S:=fun a => RBox a w2.heap.size j ∧ RIs a j { S' with X:=runX w w2.heap.size } ∧ (∃ j0,VBox a (w.heap.size + 1) j0) ∧ Below w.heap.size w a) (by kernel_rfl) ?_ (fun hHeld => ?_)
        · exact ⟨X4.out,I4.out.keep (drew_bel8 _),⟨_,Y4.out⟩,B4.out.drew⟩
        clear X4 Y4 B4 G4 I4;refine zqt (i:=0) (v:=?v0a) ?y0a ?r0a
        case y0a => (intro u hSw; (try dsimp only at hSw); go_simp; (try with_reducible rfl))
        (try simp only [zq,Act.put]);refine zqt (i:=1) (v:=vmV j.v) ?y1a ?r1a
        case y1a => exact fun u hSu => exec_rbv _ rfl w2.heap.size j rfl hSu.1
        (try simp only [zq,Act.put]);refine zqt (i:=3) (v:=?v3a) ?y3a ?r3a
        case y3a => (intro u hSw; (try dsimp only at hSw); go_simp; (try with_reducible rfl))
        (try simp only [zq,Act.put]);refine zqt (i:=4) (v:=?v4a) ?y4a ?r4a
        case y4a => (intro u hSw; (try dsimp only at hSw); have hc:=hSw.1.c26; go_simp; (try with_reducible rfl))
        (try simp only [zq,Act.put]);refine zqt (i:=5) (v:=?v5a) ?y5a ?r5a
        case y5a => (intro u hSw; (try dsimp only at hSw); go_simp; (try with_reducible rfl))
        (try simp only [zq,Act.put]);refine zqr 2 fun K hK => ?_
        go_simp;refine (bare_any j.v _).mono ?_;rintro e u1 ⟨rfl,bb⟩;have hN : RBox u1 w2.heap.size j ∧ RIs u1 j { S' with X:=runX w w2.heap.size } ∧ (∃ j0,VBox u1 (w.heap.size + 1) j0) ∧ Below w.heap.size w u1:=⟨hHeld.1.keep bb,hHeld.2.1.keep bb,hHeld.2.2.1.imp fun _ q => q.keep bb,below_then hHeld.2.2.2 bb⟩;(go_wp2_with fail);clear hHeld bb;refine hK.out _ _ hN (fun hHeld => ?_);clear hK K hN;(try simp only [zq,Act.put]);refine zqr 6 fun K hK => ?_
        obtain ⟨j7,hz⟩:=hHeld.2.2.1;refine step_vst rfl _ _ rfl (w.heap.size + 1) j7 (bareK j.v) rfl rfl hz ?_;have bz:=below_setRow hHeld.2.2.2 (show w.heap.size ≤ w.heap.size + 1 by omega) (vmC (bareK j.v));have hr2:=vrow hz (bareK j.v);have hm2:=(isvm_apart hHeld.2.1.vm (hHeld.2.1.fr (w.heap.size + 1) (.inl rfl)) (ex_row _ _ (vmC (bareK j.v))) (vbox_nou8 hz)).bare;have hsc:=hHeld.2.1.sc.bare;have hfu:=zqh hHeld.2.1.fu;refine hK.out _ _ ⟨hHeld.1.away_row (by have:=L2.out; omega) _,?_,⟨_,hr2⟩,bz⟩ (fun hHeld2 => ?_)
        · exact ⟨isvm_apart hHeld.2.1.vm (hHeld.2.1.fr (w.heap.size + 1) (.inl rfl)) (ex_row _ _ _) (vbox_nou8 hz),hHeld.2.1.sc,hHeld.2.1.ip,hHeld.2.1.wv,hHeld.2.1.d,hHeld.2.1.fu,hHeld.2.1.fr,fun g q => by rw [size_setRow]; exact hHeld.2.1.xb g q⟩
        clear hK K hHeld;(try simp only [zq,Act.put]);refine zqt (i:=7) (v:=?v7a) ?y7a ?r7a
        case y7a => (intro u hSw; (try dsimp only at hSw); go_simp; (try with_reducible rfl))
        (try simp only [zq,Act.put]);refine zqt (i:=8) (v:=?v8a) ?y8a ?r8a
        case y8a => (intro u hSw; (try dsimp only at hSw); go_simp; (try with_reducible rfl))
        (try simp only [zq,Act.put]);refine wpAnyH_done (by kernel_rfl) ?_ _;(go_wp2_with fail);refine bodyPost_ret (res_ctt rfl _ _ _ _ rfl hr2) rfl ?_;exact ⟨bareK j.v,by rw [← hfu.out]; rfl,hm2,hsc,bz⟩
      · go_wp2_with fail
        refine wp_region_held_drew (S:=fun a => RBox a w2.heap.size j ∧ RIs a j { S' with X:=runX w w2.heap.size } ∧ (∃ j0,VBox a (w.heap.size + 1) j0) ∧ Below w.heap.size w a) (by kernel_rfl) ?_ (fun hHeld => ?_)
        · exact ⟨X4.out,I4.out.keep (drew_bel8 _),⟨_,Y4.out⟩,B4.out.drew⟩
        clear X4 Y4 B4 G4 I4;refine zqt (i:=0) (v:=?v0b) ?y0b ?r0b
        case y0b => (intro u hSw; (try dsimp only at hSw); go_simp; (try with_reducible rfl))
        (try simp only [zq,Act.put]);refine zqt (i:=1) (v:=vmV j.v) ?y1b ?r1b
        case y1b => exact fun u hSu => exec_rbv _ rfl w2.heap.size j rfl hSu.1
        (try simp only [zq,Act.put]);refine zqt (i:=3) (v:=?v3b) ?y3b ?r3b
        case y3b => (intro u hSw; (try dsimp only at hSw); go_simp; (try with_reducible rfl))
        (try simp only [zq,Act.put]);refine zqt (i:=4) (v:=?v4b) ?y4b ?r4b
        case y4b => (intro u hSw; (try dsimp only at hSw); have hc:=hSw.1.c26; go_simp; (try with_reducible rfl))
        (try simp only [zq,Act.put]);refine zqt (i:=5) (v:=?v5b) ?y5b ?r5b
        case y5b => (intro u hSw; (try dsimp only at hSw); go_simp; (try with_reducible rfl))
        (try simp only [zq,Act.put]);refine zqr 2 fun K hK => ?_
        go_simp;refine (bare_any j.v _).mono ?_;rintro e u1 ⟨rfl,bb⟩;have hN : RBox u1 w2.heap.size j ∧ RIs u1 j { S' with X:=runX w w2.heap.size } ∧ (∃ j0,VBox u1 (w.heap.size + 1) j0) ∧ Below w.heap.size w u1:=⟨hHeld.1.keep bb,hHeld.2.1.keep bb,hHeld.2.2.1.imp fun _ q => q.keep bb,below_then hHeld.2.2.2 bb⟩;(go_wp2_with fail);clear hHeld bb;refine hK.out _ _ hN (fun hHeld => ?_);clear hK K hN;(try simp only [zq,Act.put]);refine zqr 6 fun K hK => ?_
        obtain ⟨j7,hz⟩:=hHeld.2.2.1;refine step_vst rfl _ _ rfl (w.heap.size + 1) j7 (bareK j.v) rfl rfl hz ?_;have bz:=below_setRow hHeld.2.2.2 (show w.heap.size ≤ w.heap.size + 1 by omega) (vmC (bareK j.v));have hr2:=vrow hz (bareK j.v);have hm2:=(isvm_apart hHeld.2.1.vm (hHeld.2.1.fr (w.heap.size + 1) (.inl rfl)) (ex_row _ _ (vmC (bareK j.v))) (vbox_nou8 hz)).bare;have hsc:=hHeld.2.1.sc.bare;have hfu:=zqh hHeld.2.1.fu;refine hK.out _ _ ⟨hHeld.1.away_row (by have:=L2.out; omega) _,?_,⟨_,hr2⟩,bz⟩ (fun hHeld2 => ?_)
        · exact ⟨isvm_apart hHeld.2.1.vm (hHeld.2.1.fr (w.heap.size + 1) (.inl rfl)) (ex_row _ _ _) (vbox_nou8 hz),hHeld.2.1.sc,hHeld.2.1.ip,hHeld.2.1.wv,hHeld.2.1.d,hHeld.2.1.fu,hHeld.2.1.fr,fun g q => by rw [size_setRow]; exact hHeld.2.1.xb g q⟩
        clear hK K hHeld;(try simp only [zq,Act.put]);refine zqt (i:=7) (v:=?v7b) ?y7b ?r7b
        case y7b => (intro u hSw; (try dsimp only at hSw); go_simp; (try with_reducible rfl))
        (try simp only [zq,Act.put]);refine zqt (i:=8) (v:=?v8b) ?y8b ?r8b
        case y8b => (intro u hSw; (try dsimp only at hSw); go_simp; (try with_reducible rfl))
        (try simp only [zq,Act.put]);refine wpAnyH_done (by kernel_rfl) ?_ _;(go_wp2_with fail);refine bodyPost_ret (res_ctt rfl _ _ _ _ rfl hr2) rfl ?_;exact ⟨bareK j.v,by rw [← hfu.out]; rfl,hm2,hsc,bz⟩
end Go.Proofs.YtcmldhjicjmmgaaGreatDoor
