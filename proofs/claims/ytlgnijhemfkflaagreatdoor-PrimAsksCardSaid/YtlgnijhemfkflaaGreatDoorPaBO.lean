/- Part 41. -/
import Derived.Shelf.Strings.Repeat
import Derived.Lib.MinMax
import Derived.Test.YtlgnijhemfkflaaGreatDoorPaBI
import Derived.Test.YtlgnijhemfkflaaGreatDoorPaBN
set_option linter.unusedVariables false
set_option linter.unusedSimpArgs false
set_option maxRecDepth 100000
set_option maxHeartbeats 4000000

namespace Go.Proofs
open Go.Shelf
def Tryz.repeat_ren : Go.Shelf.Ren:=⟨fun | 99 => 279 | 105 => 234 | 165 => 280 | 166 => 281 | 169 => 283 | 170 => 282 | 206 => 297 | 212 => 276 | 240 => 298 | 241 => 299 | 263 => 295 | 264 => 208 | 276 => 306 | 277 => 277 | n => n,fun | 0 => 0 | 3 => 3 | 4 => 4 | 5 => 5 | 9 => 9 | 20 => 20 | 37 => 24 | 46 => 267 | 51 => 207 | 53 => 52 | 70 => 278 | 72 => 280 | 75 => 283 | 76 => 284 | 109 => 274 | 127 => 302 | 146 => 299 | 148 => 214 | 164 => 306 | 80 => 286 | n => n,fun n => n⟩
theorem Tryz.repeat_lays : Go.Proofs.Lays.n105 Tryz.prog Tryz.repeat_ren:={
  mixed:=by kernel_rfl
  f99:=Tryz.func279.trans (congrArg some (by kernel_rfl))
  f105:=Tryz.func234.trans (congrArg some (by kernel_rfl))
  f165:=Tryz.func280.trans (congrArg some (by kernel_rfl))
  f166:=Tryz.func281.trans (congrArg some (by kernel_rfl))
  f169:=Tryz.func283.trans (congrArg some (by kernel_rfl))
  f170:=Tryz.func282.trans (congrArg some (by kernel_rfl))
  f206:=Tryz.func297.trans (congrArg some (by kernel_rfl))
  f212:=Tryz.func276.trans (congrArg some (by kernel_rfl))
  f240:=Tryz.func298.trans (congrArg some (by kernel_rfl))
  f241:=Tryz.func299.trans (congrArg some (by kernel_rfl))
  f263:=Tryz.func295.trans (congrArg some (by kernel_rfl))
  f264:=Tryz.func208.trans (congrArg some (by kernel_rfl))
  f276:=Tryz.func306.trans (congrArg some (by kernel_rfl))
  f277:=Tryz.func277.trans (congrArg some (by kernel_rfl))
  t0:=Tryz.underlying0
  a0:=Tryz.isAgg0
  z0:=Tryz.sizeOf0
  v0:=Tryz.zeroValue0
  t3:=Tryz.underlying3
  a3:=Tryz.isAgg3
  z3:=Tryz.sizeOf3
  v3:=Tryz.zeroValue3
  t4:=Tryz.underlying4
  a4:=Tryz.isAgg4
  z4:=Tryz.sizeOf4
  v4:=Tryz.zeroValue4
  t5:=Tryz.underlying5
  a5:=Tryz.isAgg5
  z5:=Tryz.sizeOf5
  v5:=Tryz.zeroValue5
  t9:=Tryz.underlying9
  a9:=Tryz.isAgg9
  z9:=Tryz.sizeOf9
  v9:=Tryz.zeroValue9
  t20:=Tryz.underlying20
  a20:=Tryz.isAgg20
  z20:=Tryz.sizeOf20
  v20:=Tryz.zeroValue20
  t37:=Tryz.underlying24
  a37:=Tryz.isAgg24
  z37:=Tryz.sizeOf24
  v37:=Tryz.zeroValue24
  t46:=Tryz.underlying267
  a46:=Tryz.isAgg267
  z46:=Tryz.sizeOf267
  v46:=Tryz.zeroValue267
  t51:=Tryz.underlying207
  a51:=Tryz.isAgg207
  z51:=Tryz.sizeOf207
  v51:=Tryz.zeroValue207
  t53:=Tryz.underlying52
  a53:=Tryz.isAgg52
  z53:=Tryz.sizeOf52
  v53:=Tryz.zeroValue52
  t70:=Tryz.underlying278
  a70:=Tryz.isAgg278
  z70:=Tryz.sizeOf278
  v70:=Tryz.zeroValue278
  t72:=Tryz.underlying280
  a72:=Tryz.isAgg280
  z72:=Tryz.sizeOf280
  v72:=Tryz.zeroValue280
  t75:=Tryz.underlying283
  a75:=Tryz.isAgg283
  z75:=Tryz.sizeOf283
  v75:=Tryz.zeroValue283
  t76:=Tryz.underlying284
  a76:=Tryz.isAgg284
  z76:=Tryz.sizeOf284
  v76:=Tryz.zeroValue284
  t109:=Tryz.underlying274
  a109:=Tryz.isAgg274
  z109:=Tryz.sizeOf274
  v109:=Tryz.zeroValue274
  t127:=Tryz.underlying302
  a127:=Tryz.isAgg302
  z127:=Tryz.sizeOf302
  v127:=Tryz.zeroValue302
  t146:=Tryz.underlying299
  a146:=Tryz.isAgg299
  z146:=Tryz.sizeOf299
  v146:=Tryz.zeroValue299
  t148:=Tryz.underlying214
  a148:=Tryz.isAgg214
  z148:=Tryz.sizeOf214
  v148:=Tryz.zeroValue214
  t164:=Tryz.underlying306
  a164:=Tryz.isAgg306
  z164:=Tryz.sizeOf306
  v164:=Tryz.zeroValue306 }
theorem Tryz.repeat_extra : Builder.Extra Tryz.prog Tryz.repeat_ren where
  sizeBuilder:=by kernel_rfl
  liesBuilder:=by kernel_rfl
  t5:=Tryz.repeat_lays.t5
  a5:=Tryz.repeat_lays.a5
  z5:=Tryz.repeat_lays.z5
  v5:=Tryz.repeat_lays.v5
  infoByte:=by kernel_rfl
  cellsByte:=by kernel_rfl
  sizeByte:=by kernel_rfl
  neB5:=by decide
end Go.Proofs
namespace Go.Proofs.YtlgnijhemfkflaaGreatDoor
open Go.RowKit Go.Lib Go.Shelf


theorem repeatL_one (b : UInt8) : ∀ c : Nat,Lib.repeatL [b] c = List.replicate c b
  | 0 => rfl
  | c + 1 => by
    show [b] ++ Lib.repeatL [b] c = _;rw [repeatL_one b c];rfl
theorem repeat_any (b : UInt8) (c : Nat) (w : World) (hc : c ≤ 140737488355328) :
    Calls Tryz.prog 234 #[.string (strB [b]),.int .i64 c] w fun e w' => e = .returned (.string (strB (List.replicate c b))) ∧ Below w.heap.size w w':=by
  have h:=Any.strings_Repeat Tryz.repeat_lays Tryz.repeat_extra (strB [b]) c w (by omega) (by rw [strB_size]; show 1 * c ≤ _; omega);have e : (strB [b]).data.toList = [b]:=by simp [strB]
  rw [e,repeatL_one] at h;exact h
end Go.Proofs.YtlgnijhemfkflaaGreatDoor

namespace Go.Proofs.YtlgnijhemfkflaaGreatDoor
open Go.RowKit


theorem blanks_any (k : VmK) (L : VmL) (w : World) (A : Option Addr) (c : Nat) (x : List Int) (ok : Ok k L) (h : IsVm w k L) (hx : Takes w 1 A c x) : Calls Tryz.prog 136 #[vmV k,.slice A 1 c] w fun e w' => e = .returned (.tuple #[.string (strB (blanksL (x.getD 0 0) k.co)),.int .i64 0]) ∧ Below w.heap.size w w':=by
  obtain ⟨a,g,o,rfl,rfl,hg,c0,ha⟩:=hx.one;show Calls _ _ _ _ (fun e w' => e = .returned (.tuple #[.string (strB (blanksL a k.co)),.int .i64 0]) ∧ Below w.heap.size w w');unfold blanksL;have h0:=ok.co0;have h1:=ok.co1;have HE : Hid (min (max a 0) (IntKind.i64.wrap (k.co + 1)) = ((min a.toNat (k.co.toNat + 1) : Nat) : Int)):=by
    show _ = _;rw [IntWalk.i64_left,w64_id (by omega) (by omega)];omega
  have HC:=zqh fun w => repeat_any 32 (min a.toNat (k.co.toNat + 1)) w (by omega)
  have e32 : strB [32] = ⟨#[32]⟩:=rfl;rw [e32] at HC;have V0:=zqh h;have C0:=zqh c0;generalize min a.toNat (k.co.toNat + 1) = N at HE HC ⊢;clear ok h hx c0 h0 h1 e32;go_enter Tryz.func136,Tryz.ntmps136;go_upto_region 1 with fail
  generalize hw1 : World.alloc _ _ = w1;have kb : Below w.heap.size w w1:=by rw [← hw1]; exact al_one _ _
  have kx : VBox w1 w.heap.size k:=by rw [← hw1]; exact vbox_new w k
  clear hw1;have X1:=zqh kx;have B1:=zqh kb;clear kb kx;refine wp_region_noPanic ?_;refine wp_region_held_drew (S:=fun a => Below w.heap.size w a ∧ VBox a w.heap.size k) (by kernel_rfl) ?_ (fun hHeld => ?_)
  · exact ⟨B1.out.drew,X1.out⟩
  refine zqt (i:=0) (v:=?v0a1) ?y0a1 ?r0a1
  case y0a1 =>
    intro u hSu;go_simp;(try with_reducible rfl)
  (try simp only [zq,Act.put]);refine zqt (i:=1) (v:=?v1a1) ?y1a1 ?r1a1
  case y1a1 =>
    intro u hSu;go_simp;(try with_reducible rfl)
  (try simp only [zq,Act.put]);refine zqt (i:=2) (v:=?v2a1) ?y2a1 ?r2a1
  case y2a1 =>
    intro u hSu;(try dsimp only at hSu);have q0:=(hSu.1.cell (p:=⟨g,o,none⟩) hg).trans C0.out;go_simp;(try with_reducible rfl)
  (try simp only [zq,Act.put]);refine zqt (i:=3) (v:=?v3a1) ?y3a1 ?r3a1
  case y3a1 =>
    intro u hSu;go_simp;(try with_reducible rfl)
  (try simp only [zq,Act.put]);refine zqt (i:=4) (v:=?v4a1) ?y4a1 ?r4a1
  case y4a1 =>
    intro u hSu;go_simp;(try with_reducible rfl)
  (try simp only [zq,Act.put]);refine zqt (i:=5) (v:=?v5a1) ?y5a1 ?r5a1
  case y5a1 =>
    intro u hSu;go_simp;(try with_reducible rfl)
  (try simp only [zq,Act.put]);refine zqt (i:=6) (v:=?v6a1) ?y6a1 ?r6a1
  case y6a1 =>
    intro u hSu;(try dsimp only at hSu);have q4:=hSu.2.use.2.2.2.2.1;go_simp;(try with_reducible rfl)
  (try simp only [zq,Act.put]);refine zqt (i:=7) (v:=?v7a1) ?y7a1 ?r7a1
  case y7a1 =>
    intro u hSu;go_simp;(try with_reducible rfl)
  (try simp only [zq,Act.put]);refine zqt (i:=8) (v:=?v8a1) ?y8a1 ?r8a1
  case y8a1 =>
    intro u hSu;go_simp;(try with_reducible rfl)
  (try simp only [zq,Act.put]);refine zqr 9 fun K hK => ?_
  go_simp;rw [HE.out];refine (HC.out _).mono ?_;rintro e u1 ⟨rfl,bb⟩;have hN : Below w.heap.size w u1 ∧ VBox u1 w.heap.size k:=⟨below_then hHeld.1 bb,hHeld.2.keep bb⟩;have HB:=zqh hN.1;(go_wp2_with fail);clear bb;clear hHeld;refine hK.out _ _ hN (fun hHeld => ?_);clear hK K hN;(try simp only [zq,Act.put]);refine zqt (i:=10) (v:=?v10a1) ?y10a1 ?r10a1
  case y10a1 =>
    intro u hSu;go_simp;(try with_reducible rfl)
  (try simp only [zq,Act.put]);refine zqt (i:=11) (v:=?v11a1) ?y11a1 ?r11a1
  case y11a1 =>
    intro u hSu;go_simp;(try with_reducible rfl)
  (try simp only [zq,Act.put]);refine wpAnyH_done (by kernel_rfl) ?_ _;refine NoPanic.normal ?_;(go_wp2_with fail);go_ret2;exact ⟨rfl,HB.out⟩
end Go.Proofs.YtlgnijhemfkflaaGreatDoor

namespace Go.Proofs.YtlgnijhemfkflaaGreatDoor
open Go.RowKit


theorem timed_is (kd : Int) (w : World) : Calls Tryz.prog 155 #[.int .i64 kd] w (Makes (deedE 4 (fun k L x => timerE k L kd (x.getD 0 0) (x.getD 1 0) (x.getD 2 0) (x.getD 3 0))) w):=by
  have hmf : ∀ (fn : Fn) (first cap : Array Value) (w : World),(Instr.makeFunc fn first cap).run Tryz.prog w = .ok (.func fn first cap) w:=fun _ _ _ _ => rfl
  go_enter Tryz.func155,Tryz.ntmps155;(go_wp2_with fail);generalize hw1 : World.alloc _ _ = w1;have kb : Below w.heap.size w w1:=by rw [← hw1]; exact al_one _ _
  have c0 : w1.cell? ⟨w.heap.size,0,none⟩ = some (.int .i64 kd):=by rw [← hw1]; simp
  have hl : w.heap.size < w1.heap.size:=by rw [← hw1]; simp
  have HA : IsAct w1 (.func (.func 250) #[] #[.pointer (some ⟨w.heap.size,0,none⟩)]) 4 (fun k L x => timerE k L kd (x.getD 0 0) (x.getD 1 0) (x.getD 2 0) (x.getD 3 0)):=⟨_,_,rfl,(enters_of Tryz.func250 (by kernel_rfl) rfl),fun w2 k L A c x b2 ok hv hx => timed1 w1 _ kd c0 hl k L A c x w2 b2 ok hv hx⟩;have B1:=zqh kb;clear c0 kb hw1;refine (taking_is 4 _ (by decide) (fun _ _ _ => by show 1 ≤ 4; decide) w1 _ HA).mono ?_;rintro e w2 ⟨d,rfl,hd,bb⟩;have B2:=zqh (below_then B1.out bb);clear B1 bb HA hl;(go_wp2_with fail);go_ret;exact ⟨d,rfl,hd,B2.out⟩
theorem show_len9 {n : Int} (b : Int) (h : cellR n) : (showF n b).length ≤ 65:=by
  unfold cellR at h;unfold showF
  split
  · rename_i h
    have hb:=(baseB_iff b).1 h
    split
    · have:=us_le (b:=b.toNat) (by omega) 63 n.toNat (by omega); omega
    · have:=us_le (b:=b.toNat) (by omega) 63 (-n).toNat (by omega)
      simp;omega
  · simp
theorem blanks_len (n : Int) {co : Int} (h : co ≤ 65536) : (blanksL n co).length ≤ 100000:=by
  unfold blanksL;rw [List.length_replicate];omega
theorem text_len9 (m : PM) (p n : Int) (h : m.1.length ≤ 8192) : (textF m p n).length ≤ 100000:=by
  unfold textF
  split
  · rw [List.length_take,List.length_drop]; omega
  · simp
theorem eventDeeds_is (w : World) : Calls Tryz.prog 56 #[] w (MapOut [(⟨#[80,79,83,84]⟩,doF 120),(⟨#[65,70,84,69,82]⟩,doF 121),(⟨#[69,86,69,82,89]⟩,doF 122),(⟨#[67,65,78,67,69,76]⟩,doF 123),(⟨#[65,82,71]⟩,doF 124),(⟨#[83,69,76,70]⟩,doF 125),(⟨#[78,79,87]⟩,doF 126)] w):=by
  have hmm:=@run_makeMap Tryz.prog;have M0 : Hid (DMap (w.alloc (.map #[] 0)) w.heap.size []):=dmap_new w;have B0 : Hid (Below w.heap.size w (w.alloc (.map #[] 0))):=zqh (below_one _ _);go_enter Tryz.func56,Tryz.ntmps56;(go_wp2_with fail);refine (turns_is 3 (fun k L x => ⟨if hasB L (x.getD 1 0) (x.getD 2 0) = true then postC L else -259,[],k,{ L with e:=L.e ++ [⟨1,(x.getD 0 0),(x.getD 1 0),(x.getD 2 0),0,0⟩] }⟩) (by decide) _ _ ⟨_,#[],rfl,(enters_of Tryz.func154 (by kernel_rfl) rfl),fun w k L A c x _ ok hv hx => posted_any k L A c x w ok hv hx⟩).mono ?_;rintro e u0 ⟨d0,rfl,hd,bb⟩;have N0:=zqh (M0.out.keep bb);have A0:=zqh (below_then B0.out bb);have D0 : Hid (IsDeed u0 d0 (doF 120)):=zqh (hd.as fun k L => rfl);clear M0 B0 hd bb;(go_wp2_with (refine wpList_insertD rfl _ _ _ rfl w.heap.size _ ⟨#[80,79,83,84]⟩ d0 (doF 120) rfl rfl rfl N0.out D0.out (by decide) ?_; intro v0 hm hg; have M1:=zqh hm; have B1:=zqh (A0.out.grown hg A0.out.size (fun k hk => by cases hk; exact Nat.le_refl _)); clear N0 A0 D0 hm hg));refine (timed_is 2 _).mono ?_;rintro e u1 ⟨d1,rfl,hd,bb⟩;have N1:=zqh (M1.out.keep bb);have A1:=zqh (below_then B1.out bb);have D1 : Hid (IsDeed u1 d1 (doF 121)):=zqh (hd.as fun k L => rfl);clear M1 B1 hd bb;(go_wp2_with (refine wpList_insertD rfl _ _ _ rfl w.heap.size _ ⟨#[65,70,84,69,82]⟩ d1 (doF 121) rfl rfl rfl N1.out D1.out (by decide) ?_; intro v1 hm hg; have M2:=zqh hm; have B2:=zqh (A1.out.grown hg A1.out.size (fun k hk => by cases hk; exact Nat.le_refl _)); clear N1 A1 D1 hm hg))
  refine (timed_is 3 _).mono ?_;rintro e u2 ⟨d2,rfl,hd,bb⟩;have N2:=zqh (M2.out.keep bb);have A2:=zqh (below_then B2.out bb);have D2 : Hid (IsDeed u2 d2 (doF 122)):=zqh (hd.as fun k L => rfl);clear M2 B2 hd bb;(go_wp2_with (refine wpList_insertD rfl _ _ _ rfl w.heap.size _ ⟨#[69,86,69,82,89]⟩ d2 (doF 122) rfl rfl rfl N2.out D2.out (by decide) ?_; intro v2 hm hg; have M3:=zqh hm; have B3:=zqh (A2.out.grown hg A2.out.size (fun k hk => by cases hk; exact Nat.le_refl _)); clear N2 A2 D2 hm hg));refine (turns_is 1 (fun k L x => ⟨postC L,[],k,{ L with e:=L.e ++ [⟨4,0,0,0,0,(x.getD 0 0)⟩] }⟩) (by decide) _ _ ⟨_,#[],rfl,(enters_of Tryz.func156 (by kernel_rfl) rfl),fun w k L A c x _ ok hv hx => cancelled_any k L A c x w ok hv hx⟩).mono ?_;rintro e u3 ⟨d3,rfl,hd,bb⟩;have N3:=zqh (M3.out.keep bb);have A3:=zqh (below_then B3.out bb);have D3 : Hid (IsDeed u3 d3 (doF 123)):=zqh (hd.as fun k L => rfl);clear M3 B3 hd bb;(go_wp2_with (refine wpList_insertD rfl _ _ _ rfl w.heap.size _ ⟨#[67,65,78,67,69,76]⟩ d3 (doF 123) rfl rfl rfl N3.out D3.out (by decide) ?_; intro v3 hm hg; have M4:=zqh hm; have B4:=zqh (A3.out.grown hg A3.out.size (fun k hk => by cases hk; exact Nat.le_refl _)); clear N3 A3 D3 hm hg));refine (tells_is (fun k L => k.arg) _ _ ⟨_,#[],rfl,(enters_of Tryz.func157 (by kernel_rfl) rfl),fun w k L _ _ _ => arg1 k w⟩).mono ?_;rintro e u4 ⟨d4,rfl,hd,bb⟩;have N4:=zqh (M4.out.keep bb);have A4:=zqh (below_then B4.out bb);have D4 : Hid (IsDeed u4 d4 (doF 124)):=zqh (hd.as fun k L => rfl)
  clear M4 B4 hd bb;(go_wp2_with (refine wpList_insertD rfl _ _ _ rfl w.heap.size _ ⟨#[65,82,71]⟩ d4 (doF 124) rfl rfl rfl N4.out D4.out (by decide) ?_; intro v4 hm hg; have M5:=zqh hm; have B5:=zqh (A4.out.grown hg A4.out.size (fun k hk => by cases hk; exact Nat.le_refl _)); clear N4 A4 D4 hm hg));refine (tells_is (fun k L => k.self) _ _ ⟨_,#[],rfl,(enters_of Tryz.func158 (by kernel_rfl) rfl),fun w k L _ _ _ => self1 k w⟩).mono ?_;rintro e u5 ⟨d5,rfl,hd,bb⟩;have N5:=zqh (M5.out.keep bb);have A5:=zqh (below_then B5.out bb);have D5 : Hid (IsDeed u5 d5 (doF 125)):=zqh (hd.as fun k L => rfl);clear M5 B5 hd bb;(go_wp2_with (refine wpList_insertD rfl _ _ _ rfl w.heap.size _ ⟨#[83,69,76,70]⟩ d5 (doF 125) rfl rfl rfl N5.out D5.out (by decide) ?_; intro v5 hm hg; have M6:=zqh hm; have B6:=zqh (A5.out.grown hg A5.out.size (fun k hk => by cases hk; exact Nat.le_refl _)); clear N5 A5 D5 hm hg));refine (tells_is (fun k L => k.now) _ _ ⟨_,#[],rfl,(enters_of Tryz.func159 (by kernel_rfl) rfl),fun w k L _ _ _ => now1 k w⟩).mono ?_;rintro e u6 ⟨d6,rfl,hd,bb⟩;have N6:=zqh (M6.out.keep bb);have A6:=zqh (below_then B6.out bb);have D6 : Hid (IsDeed u6 d6 (doF 126)):=zqh (hd.as fun k L => rfl);clear M6 B6 hd bb;(go_wp2_with (refine wpList_insertD rfl _ _ _ rfl w.heap.size _ ⟨#[78,79,87]⟩ d6 (doF 126) rfl rfl rfl N6.out D6.out (by decide) ?_; intro v6 hm hg; have M7:=zqh hm; have B7:=zqh (A6.out.grown hg A6.out.size (fun k hk => by cases hk; exact Nat.le_refl _)); clear N6 A6 D6 hm hg))
  go_ret;exact ⟨_,rfl,M7.out,B7.out⟩
theorem printDeeds_is (w : World) : Calls Tryz.prog 53 #[] w (MapOut [(⟨#[69,77,73,84]⟩,doF 105),(⟨#[67,82]⟩,doF 106),(⟨#[83,80,65,67,69]⟩,doF 107),(⟨#[83,80,65,67,69,83]⟩,doF 108),(⟨#[84,89,80,69]⟩,doF 109),(⟨#[46]⟩,doF 110),(⟨#[85,46]⟩,doF 111)] w):=by
  have hmm:=@run_makeMap Tryz.prog;have M0 : Hid (DMap (w.alloc (.map #[] 0)) w.heap.size []):=dmap_new w;have B0 : Hid (Below w.heap.size w (w.alloc (.map #[] 0))):=zqh (below_one _ _);go_enter Tryz.func53,Tryz.ntmps53;(go_wp2_with fail);refine (prints_is 1 (fun k L x => [lowB (x.getD 0 0)]) (fun k L x => 0) (by decide) _ _ ⟨_,#[],rfl,(enters_of Tryz.func134 (by kernel_rfl) rfl),fun w k L A c x _ ok hv hx => (emit1 k w A c x hx).mono fun e w' h => ⟨h.1,fun _ => by show 1 ≤ 100000; decide,h.2⟩⟩).mono ?_;rintro e u0 ⟨d0,rfl,hd,bb⟩;have N0:=zqh (M0.out.keep bb);have A0:=zqh (below_then B0.out bb);have D0 : Hid (IsDeed u0 d0 (doF 105)):=zqh (hd.as fun k L => rfl);clear M0 B0 hd bb;(go_wp2_with (refine wpList_insertD rfl _ _ _ rfl w.heap.size _ ⟨#[69,77,73,84]⟩ d0 (doF 105) rfl rfl rfl N0.out D0.out (by decide) ?_; intro v0 hm hg; have M1:=zqh hm; have B1:=zqh (A0.out.grown hg A0.out.size (fun k hk => by cases hk; exact Nat.le_refl _)); clear N0 A0 D0 hm hg));refine (printsSame_is [10] (by decide) _).mono ?_;rintro e u1 ⟨d1,rfl,hd,bb⟩;have N1:=zqh (M1.out.keep bb);have A1:=zqh (below_then B1.out bb);have D1 : Hid (IsDeed u1 d1 (doF 106)):=zqh (hd.as fun k L => rfl);clear M1 B1 hd bb;(go_wp2_with (refine wpList_insertD rfl _ _ _ rfl w.heap.size _ ⟨#[67,82]⟩ d1 (doF 106) rfl rfl rfl N1.out D1.out (by decide) ?_; intro v1 hm hg; have M2:=zqh hm; have B2:=zqh (A1.out.grown hg A1.out.size (fun k hk => by cases hk; exact Nat.le_refl _)); clear N1 A1 D1 hm hg))
  refine (printsSame_is [32] (by decide) _).mono ?_;rintro e u2 ⟨d2,rfl,hd,bb⟩;have N2:=zqh (M2.out.keep bb);have A2:=zqh (below_then B2.out bb);have D2 : Hid (IsDeed u2 d2 (doF 107)):=zqh (hd.as fun k L => rfl);clear M2 B2 hd bb;(go_wp2_with (refine wpList_insertD rfl _ _ _ rfl w.heap.size _ ⟨#[83,80,65,67,69]⟩ d2 (doF 107) rfl rfl rfl N2.out D2.out (by decide) ?_; intro v2 hm hg; have M3:=zqh hm; have B3:=zqh (A2.out.grown hg A2.out.size (fun k hk => by cases hk; exact Nat.le_refl _)); clear N2 A2 D2 hm hg));refine (prints_is 1 (fun k L x => blanksL (x.getD 0 0) k.co) (fun k L x => 0) (by decide) _ _ ⟨_,#[],rfl,(enters_of Tryz.func136 (by kernel_rfl) rfl),fun w k L A c x _ ok hv hx => (blanks_any k L w A c x ok hv hx).mono fun e w' h => ⟨h.1,fun _ => blanks_len _ ok.co1,h.2⟩⟩).mono ?_;rintro e u3 ⟨d3,rfl,hd,bb⟩;have N3:=zqh (M3.out.keep bb);have A3:=zqh (below_then B3.out bb);have D3 : Hid (IsDeed u3 d3 (doF 108)):=zqh (hd.as fun k L => rfl);clear M3 B3 hd bb;(go_wp2_with (refine wpList_insertD rfl _ _ _ rfl w.heap.size _ ⟨#[83,80,65,67,69,83]⟩ d3 (doF 108) rfl rfl rfl N3.out D3.out (by decide) ?_; intro v3 hm hg; have M4:=zqh hm; have B4:=zqh (A3.out.grown hg A3.out.size (fun k hk => by cases hk; exact Nat.le_refl _)); clear N3 A3 D3 hm hg));refine (prints_is 2 (fun k L x => textF L.m (x.getD 0 0) (x.getD 1 0)) (fun k L x => codeF (okB L.m.1.length (x.getD 0 0) (x.getD 1 0))) (by decide) _ _ ⟨_,#[],rfl,(enters_of Tryz.func137 (by kernel_rfl) rfl),fun w k L A c x _ ok hv hx => (typed_any k L w A c x ok hv hx).mono fun e w' h => ⟨h.1,fun _ => text_len9 _ _ _ ok.m2,h.2⟩⟩).mono ?_
  rintro e u4 ⟨d4,rfl,hd,bb⟩;have N4:=zqh (M4.out.keep bb);have A4:=zqh (below_then B4.out bb);have D4 : Hid (IsDeed u4 d4 (doF 109)):=zqh (hd.as fun k L => rfl);clear M4 B4 hd bb;(go_wp2_with (refine wpList_insertD rfl _ _ _ rfl w.heap.size _ ⟨#[84,89,80,69]⟩ d4 (doF 109) rfl rfl rfl N4.out D4.out (by decide) ?_; intro v4 hm hg; have M5:=zqh hm; have B5:=zqh (A4.out.grown hg A4.out.size (fun k hk => by cases hk; exact Nat.le_refl _)); clear N4 A4 D4 hm hg));refine (printsNumber_is _ (enters_of Tryz.func139 (by kernel_rfl) rfl) showF showC (fun a b w ha hb => show_any a b w (by unfold cellR at ha; omega) (by unfold cellR at ha; omega)) (fun a b ha hb => by have:=show_len9 b ha; omega) _).mono ?_;rintro e u5 ⟨d5,rfl,hd,bb⟩;have N5:=zqh (M5.out.keep bb);have A5:=zqh (below_then B5.out bb);have D5 : Hid (IsDeed u5 d5 (doF 110)):=zqh (hd.as fun k L => rfl);clear M5 B5 hd bb;(go_wp2_with (refine wpList_insertD rfl _ _ _ rfl w.heap.size _ ⟨#[46]⟩ d5 (doF 110) rfl rfl rfl N5.out D5.out (by decide) ?_; intro v5 hm hg; have M6:=zqh hm; have B6:=zqh (A5.out.grown hg A5.out.size (fun k hk => by cases hk; exact Nat.le_refl _)); clear N5 A5 D5 hm hg));refine (printsNumber_is _ (enters_of Tryz.func140 (by kernel_rfl) rfl) ushowF showC (fun a b w ha hb => ushow_any a b w (by unfold cellR at ha; omega) (by unfold cellR at ha; omega)) (fun a b ha hb => by have:=ushow_len a b; omega) _).mono ?_;rintro e u6 ⟨d6,rfl,hd,bb⟩;have N6:=zqh (M6.out.keep bb);have A6:=zqh (below_then B6.out bb)
  have D6 : Hid (IsDeed u6 d6 (doF 111)):=zqh (hd.as fun k L => rfl);clear M6 B6 hd bb;(go_wp2_with (refine wpList_insertD rfl _ _ _ rfl w.heap.size _ ⟨#[85,46]⟩ d6 (doF 111) rfl rfl rfl N6.out D6.out (by decide) ?_; intro v6 hm hg; have M7:=zqh hm; have B7:=zqh (A6.out.grown hg A6.out.size (fun k hk => by cases hk; exact Nat.le_refl _)); clear N6 A6 D6 hm hg));go_ret;exact ⟨_,rfl,M7.out,B7.out⟩
end Go.Proofs.YtlgnijhemfkflaaGreatDoor
