/- Part 15. -/
import Derived.Shelf.Strings.Fields
import Derived.LaidMore
import Derived.Lib.LaidTab
import Derived.Stop.Joined
import Derived.JoinedOf
import Derived.Shelf.Spec.SlicesGrow
import Derived.Test.YtlgnijhemfkflaaGreatDoorPaAN
set_option linter.unusedVariables false
set_option linter.unusedSimpArgs false
set_option maxRecDepth 100000
set_option maxHeartbeats 4000000

namespace Go.Proofs
open Go.Shelf
def Tryz.fields_ren : Go.Shelf.Ren:=⟨fun | 157 => 44 | 199 => 75 | 229 => 74 | 261 => 197 | 311 => 260 | 312 => 261 | n => n,fun | 0 => 0 | 3 => 3 | 4 => 4 | 5 => 5 | 9 => 9 | 21 => 21 | 31 => 50 | 40 => 125 | 46 => 267 | 49 => 54 | 51 => 207 | 119 => 123 | 141 => 209 | 152 => 204 | 154 => 206 | 193 => 251 | 194 => 252 | 196 => 254 | 198 => 256 | 201 => 259 | 226 => 290 | 227 => 291 | n => n,fun | 0 => 0 | 6 => 1 | n => n⟩
theorem Tryz.fields_lays : Go.Proofs.Lays.n157 Tryz.prog Tryz.fields_ren:={
  mixed:=by kernel_rfl
  f157:=Tryz.func44.trans (congrArg some (by kernel_rfl))
  f199:=Tryz.func75.trans (congrArg some (by kernel_rfl))
  f229:=Tryz.func74.trans (congrArg some (by kernel_rfl))
  f261:=Tryz.func197.trans (congrArg some (by kernel_rfl))
  f311:=Tryz.func260.trans (congrArg some (by kernel_rfl))
  f312:=Tryz.func261.trans (congrArg some (by kernel_rfl))
  t0:=Tryz.underlying0
  a0:=Tryz.isAgg0
  z0:=Tryz.sizeOf0
  v0:=Tryz.zeroValue0
  t3:=Tryz.underlying3
  a3:=Tryz.isAgg3
  z3:=Tryz.sizeOf3
  v3:=Tryz.zeroValue3
  t4:=Tryz.underlying4
  a4:=Tryz.isAgg4
  z4:=Tryz.sizeOf4
  v4:=Tryz.zeroValue4
  t5:=Tryz.underlying5
  a5:=Tryz.isAgg5
  z5:=Tryz.sizeOf5
  v5:=Tryz.zeroValue5
  t9:=Tryz.underlying9
  a9:=Tryz.isAgg9
  z9:=Tryz.sizeOf9
  v9:=Tryz.zeroValue9
  t21:=Tryz.underlying21
  a21:=Tryz.isAgg21
  z21:=Tryz.sizeOf21
  v21:=Tryz.zeroValue21
  t31:=Tryz.underlying50
  a31:=Tryz.isAgg50
  z31:=Tryz.sizeOf50
  v31:=Tryz.zeroValue50
  t40:=Tryz.underlying125
  a40:=Tryz.isAgg125
  z40:=Tryz.sizeOf125
  v40:=Tryz.zeroValue125
  t46:=Tryz.underlying267
  a46:=Tryz.isAgg267
  z46:=Tryz.sizeOf267
  v46:=Tryz.zeroValue267
  t49:=Tryz.underlying54
  a49:=Tryz.isAgg54
  z49:=Tryz.sizeOf54
  v49:=Tryz.zeroValue54
  t51:=Tryz.underlying207
  a51:=Tryz.isAgg207
  z51:=Tryz.sizeOf207
  v51:=Tryz.zeroValue207
  t119:=Tryz.underlying123
  a119:=Tryz.isAgg123
  z119:=Tryz.sizeOf123
  t141:=Tryz.underlying209
  a141:=Tryz.isAgg209
  z141:=Tryz.sizeOf209
  v141:=Tryz.zeroValue209
  t152:=Tryz.underlying204
  a152:=Tryz.isAgg204
  z152:=Tryz.sizeOf204
  v152:=Tryz.zeroValue204
  t154:=Tryz.underlying206
  a154:=Tryz.isAgg206
  z154:=Tryz.sizeOf206
  v154:=Tryz.zeroValue206
  t193:=Tryz.underlying251
  a193:=Tryz.isAgg251
  z193:=Tryz.sizeOf251
  v193:=Tryz.zeroValue251
  t194:=Tryz.underlying252
  a194:=Tryz.isAgg252
  z194:=Tryz.sizeOf252
  v194:=Tryz.zeroValue252
  t196:=Tryz.underlying254
  a196:=Tryz.isAgg254
  z196:=Tryz.sizeOf254
  v196:=Tryz.zeroValue254
  t198:=Tryz.underlying256
  a198:=Tryz.isAgg256
  z198:=Tryz.sizeOf256
  v198:=Tryz.zeroValue256
  t201:=Tryz.underlying259
  a201:=Tryz.isAgg259
  z201:=Tryz.sizeOf259
  v201:=Tryz.zeroValue259
  t226:=Tryz.underlying290
  a226:=Tryz.isAgg290
  z226:=Tryz.sizeOf290
  v226:=Tryz.zeroValue290
  t227:=Tryz.underlying291
  a227:=Tryz.isAgg291
  z227:=Tryz.sizeOf291
  v227:=Tryz.zeroValue291
  g0:=by kernel_rfl
  g6:=by kernel_rfl }
end Go.Proofs
namespace Go.Proofs.YtlgnijhemfkflaaGreatDoor
open Go.RowKit Go.Lib Go.Shelf


def Tab (w : World) : Prop:=∀ c : Nat,c < 256 → w.cell? ⟨0,c,none⟩ = some (.int .u8 (if Lib.isSp (UInt8.ofNat c) then 1 else 0))
theorem Tab.keep {w w' : World} (h : Tab w) (b : Below w.heap.size w w') : Tab w':=fun c hc => (b.cell (p:=⟨0,c,none⟩) (World.block_lt_of_cell? _ _ (h c hc))).trans (h c hc)
theorem fields_hi : (Tryz.prog.info? (Tryz.fields_ren.t 9)).map (fun i => (i.zero,i.size,i.bytes)) = some (some (.string ByteArray.empty),1,16):=by kernel_rfl
theorem fields_any (l : List UInt8) (w : World) (hl : l.length < 4294967281) (ha : l.all (fun b => decide (b.toNat < 128)) = true) (ht : Tab w) (ls : List (List UInt8)) (hls : Lib.fields l = ls) :
    Calls Tryz.prog 44 #[.string (strB l)] w fun e w' => e = .returned (.slice (some ⟨w.heap.size,0,none⟩) ls.length ls.length) ∧ w' = w.alloc (.cells (sts ls).toArray 9):=by
  have h:=Any.strings_Fields_core Tryz.fields_lays fields_hi (strB l) w (by rw [strB_size]; exact hl) (fun j b hb => by
    have : b ∈ l:=by
      have e : (strB l).data.toList = l:=by simp [strB]
      rw [e] at hb;exact List.mem_of_getElem? hb
    simpa using List.all_eq_true.1 ha b this) ht
  have e : (strB l).data.toList = l:=by simp [strB]
  rw [e,hls] at h;exact h
end Go.Proofs.YtlgnijhemfkflaaGreatDoor

namespace Go.Proofs.YtlgnijhemfkflaaGreatDoor
open Go.RowKit Go.Lib Go.ChangeShapes Go.WideShapes Go.ChangeAt


abbrev laidL : List (String × DataW Unit) := [("unicode.White_Space", Rows.laid_unicode_White_Space), ("strings.asciiSpace", Rows.laid_strings_asciiSpace)]
theorem gSpace : Tryz.prog.globalNamed "strings.asciiSpace" = some 0 := by kernel_rfl
theorem gSpaceType : (Tryz.prog.globals[0]?).map (·.type) = some 123:=by kernel_rfl
theorem cells_u8 : Tryz.prog.cellsOf 5 = 1:=by kernel_rfl
theorem cells_tab : Tryz.prog.cellsOf 123 = 256:=by kernel_rfl
theorem laid_is : (Rows.laid_strings_asciiSpace : DataW Unit) = tabData .u8 asciiSpaceTab:=by kernel_rfl
theorem tab_of {W : World} (h : laidMetH Tryz.prog laidL W) : Tab W:=by
  rw [MakeChecks.laidMetH_plain _ _ _ (by kernel_rfl)] at h;obtain ⟨ps, ⟨g0, t0, cs0, f0, p0, q0, hg0, ht0, hv0, hd0, ⟨g1, t1, cs1, f1, p1, q1, hg1, ht1, hv1, hd1, _, _⟩, _⟩, _, _⟩ := h;obtain rfl := Option.some.inj (gSpace.symm.trans hg1);obtain rfl := Option.some.inj (gSpaceType.symm.trans ht1);have hT : TabIs Tryz.prog W "strings.asciiSpace" .u8 asciiSpaceTab := by
    unfold TabIs;rw [laid_is] at hd1;rw [hv1,← cells_of_tab Tryz.underlying123 Tryz.underlying5 cells_u8 cells_tab hd1]
  intro c hc;rw [hT.cell gSpace c (by rw [asciiSpaceTab_length]; exact hc),asciiSpaceTab_at c hc]
theorem door_met (os : Os) (args : Array Value) : laidMetH Tryz.prog laidL ((World.doorLaid Tryz.prog 2000 os).forCall (fun _ _ => 0) ⟨#[],args,[]⟩).memory :=
  laidMetH_of_parts3 (fuel:=8) (laidMet_of_run' 8 (by kernel_rfl) (by kernel_rfl)) (by kernel_rfl) (by kernel_rfl)
end Go.Proofs.YtlgnijhemfkflaaGreatDoor

namespace Go.Proofs.YtlgnijhemfkflaaGreatDoor


theorem and2 {a b : Bool} (ha : a = true) (hb : b = true) : (a && b) = true:=by rw [ha,hb]; rfl
theorem joined_of {P : Program} {f : FuncId} {fn : Func} {s : ChangeSpec} {c : OpenClaim} (h1 : (c.wf (OpenSpec.ofChange s)) = true) (h2 : (laidOutB P) = true) (h3 : (mapsRowed P) = true) (h4 : (fn.params.all (P.readableRec ·)) = true) (h5 : (namedTie P c.named s.vars) = true) (h6 : ((c.stops == [])) = true) (h7 : ((P.stops == [])) = true) (h8 : ((c.knobs == [])) = true) (h9 : ((P.stopKnobs == [])) = true) (h10 : ((c.inPlace == P.inPlace f)) = true) (h11 : ((c.unfollowed == P.unfollowed f)) = true) (h12 : ((c.recurses == P.recurses f)) = true) (h13 : ((c.named == P.varsNamed f)) = true) (h14 : ((c.maps == (fn.params.toList ++ s.plain.varTypes P).any (P.mapsRec ·))) = true) (h15 : ((c.ifaces == (fn.params.toList ++ s.plain.varTypes P).any (P.ifacesRec ·))) = true) (h16 : ((c.mapsOut == P.mapsAmong fn.resultTypes.toList)) = true) (h17 : ((c.loops == (fn.params.toList ++ s.plain.varTypes P).any (P.loopsFrom ·))) = true) (h18 : ((c.wideKeys == (fn.params.toList ++ s.plain.varTypes P ++ fn.resultTypes.toList).any (P.wideKeysFrom ·))) = true) (h19 : (s.vars.all (P.varReadable ·)) = true) (h20 : (fn.resultTypes.all (fun t => P.readableRec t && decide (t < P.types.size))) = true) (h21 : ((c.ifacesOut == fn.resultTypes.toList.any (P.ifacesRec ·))) = true) (h22 : ((c.loopsOut == fn.resultTypes.toList.any (P.loopsFrom ·))) = true) (h23 : ((c.plainKeys == P.plainKeys)) = true) (h24 : (c.shortTexts.isNone) = true) (h25 : (P.stopsHeard) = true) (h26 : (P.mayEnter) = true) (h27 : ((c.lifted == P.liftsFinal)) = true) (h28 : ((P.make == some c.make)) = true) (h29 : ((c.kinds == (if c.domain.isEmpty then [] else fn.params.toList.map fun t => match P.underlying t with | some (.int k) => some k | _ => none))) = true) (h30 : ((c.pinned == c.pinnedBy)) = true) (h31 : ((c.veiled == (fn.params.toList ++ s.plain.varTypes P ++ fn.resultTypes.toList).any (P.veiledRec ·))) = true) (h32 : (c.veiledFits P fn.params.toList (fn.params.toList ++ s.plain.varTypes P ++ fn.resultTypes.toList)) = true) : joinedFacts P f fn s c = true:=by
  unfold joinedFacts;exact (and2 (and2 (and2 (and2 (and2 (and2 (and2 (and2 (and2 (and2 (and2 (and2 (and2 (and2 (and2 (and2 (and2 (and2 (and2 (and2 (and2 (and2 (and2 (and2 (and2 (and2 (and2 (and2 (and2 (and2 (and2 h1 h2) h3) h4) h5) h6) h7) h8) h9) h10) h11) h12) h13) h14) h15) h16) h17) h18) h19) h20) h21) h22) h23) h24) h25) h26) h27) h28) h29) h30) h31) h32)
theorem closed_h2 : (laidOutB Tryz.pinned.checked.prog) = true:=by kernel_rfl
theorem closed_h3 : (mapsRowed Tryz.pinned.checked.prog) = true:=by kernel_rfl
theorem closed_h7 : ((Tryz.pinned.checked.prog.stops == [])) = true:=by kernel_rfl
theorem closed_h9 : ((Tryz.pinned.checked.prog.stopKnobs == [])) = true:=by kernel_rfl
theorem closed_h25 : (Tryz.pinned.checked.prog.stopsHeard) = true:=by kernel_rfl
theorem closed_h26 : (Tryz.pinned.checked.prog.mayEnter) = true:=by kernel_rfl
end Go.Proofs.YtlgnijhemfkflaaGreatDoor

namespace Go.Proofs
open Go.Shelf
def Tryz.growb_ren : Go.Shelf.Ren:=⟨fun | 4 => 296 | n => n,fun | 0 => 0 | 3 => 3 | 4 => 4 | 9 => 9 | 20 => 20 | 22 => 24 | 25 => 5 | n => n,fun | n => n⟩
theorem Tryz.growb_lays : Go.Proofs.Lays8.n4 Tryz.prog Tryz.growb_ren:={
  mixed:=by kernel_rfl
  f4 := ⟨"slices.Grow[[]byte,byte]", by decide, Tryz.func296.trans (congrArg some (by kernel_rfl))⟩
  t0:=Tryz.underlying0
  a0:=Tryz.isAgg0
  z0:=Tryz.sizeOf0
  v0:=Tryz.zeroValue0
  t3:=Tryz.underlying3
  a3:=Tryz.isAgg3
  z3:=Tryz.sizeOf3
  v3:=Tryz.zeroValue3
  t4:=Tryz.underlying4
  a4:=Tryz.isAgg4
  z4:=Tryz.sizeOf4
  v4:=Tryz.zeroValue4
  t9:=Tryz.underlying9
  a9:=Tryz.isAgg9
  z9:=Tryz.sizeOf9
  v9:=Tryz.zeroValue9
  t20:=Tryz.underlying20
  a20:=Tryz.isAgg20
  z20:=Tryz.sizeOf20
  v20:=Tryz.zeroValue20
  t22:=Tryz.underlying24
  a22:=Tryz.isAgg24
  z22:=Tryz.sizeOf24
  v22:=Tryz.zeroValue24 }
end Go.Proofs
namespace Go.Proofs.YtlgnijhemfkflaaGreatDoor
open Go.RowKit Go.Lib Go.Shelf


theorem pair_new (w : World) (a b : Value) (t : TypeId) : (w.alloc (.cells #[a,b] t)).cell? ⟨w.heap.size,0,none⟩ = some a ∧ (w.alloc (.cells #[a,b] t)).cell? ⟨w.heap.size,1,none⟩ = some b:=by
  have h:=one_newN w #[a,b] t;constructor <;> (unfold World.cell?; rw [h]; rfl)
theorem bgrow_any (n : Nat) (w : World) (hn : n ≤ 200000) : Calls Tryz.prog 296 #[.slice none 0 0,.int .i64 (n : Int)] w fun e w' => ∃ v,e = .returned v ∧ BOwns w' w.heap.size v 0 [] ∧ Below w.heap.size w w':=by
  by_cases h0 : n = 0
  · subst h0
    refine (Any8.slices_Grow_room Tryz.growb_lays none 0 0 0 w (Nat.le_refl _) (by decide) (by decide) (by decide)).mono ?_;rintro e w1 ⟨rfl,rfl⟩;exact ⟨_,rfl,⟨rfl,.inl ⟨rfl,rfl⟩⟩,Below.refl _ _⟩
  · obtain ⟨i0,hi,hz0,hz1,hz2⟩:=info_parts info_u8
    have h:=Any8.slices_Grow_grow Tryz.growb_lays i0 _ hi hz0 (by rw [hz1]; decide) none 0 0 n [] w (Nat.le_refl _) (by omega) (by rw [hz2]; omega) (by omega) (by simp) (fun _ => rfl) (fun a e => by cases e);refine h.mono ?_;rintro e w1 ⟨rfl,rfl⟩;refine ⟨_,rfl,⟨rfl,.inr ⟨w.heap.size,_,_,rfl,Nat.le_refl _,one_newN w.drew _ _,Nat.zero_le _,grownCap_le_maxLen _ _ _ _ (by unfold maxLen; omega),?_,by simp [u8s]⟩⟩,?_⟩
    · have hge:=grownCap_ge w (0 + n) 0 (Tryz.growb_ren.t 25)
      obtain ⟨G,hG⟩ : ∃ G,grownCap w (0 + n) 0 (Tryz.growb_ren.t 25) = G:=⟨_,rfl⟩;rw [hG] at hge ⊢;simp [Builtin.zeroCells,Value.cells];omega
    · exact (⟨rfl,rfl,rfl,Nat.le_refl _,fun _ _ => rfl⟩ : Below w.heap.size w w.drew).alloc (Nat.le_refl _) _
theorem bcat_any (A A' : Option Addr) (n c n' c' : Nat) (l l' : List UInt8) (g : Nat) (w : World) (H0 : w.cell? ⟨g,0,none⟩ = some (.slice A n c)) (H1 : w.cell? ⟨g,1,none⟩ = some (.slice A' n' c'))
    (h : Byt w (.slice A n c) l) (h' : Byt w (.slice A' n' c') l') (hl : l.length ≤ 100000) (hl' : l'.length ≤ 100000) :
    Calls Tryz.prog 278 #[.slice (some ⟨g,0,none⟩) 2 2] w fun e w' => ∃ v,e = .returned v ∧ BOwns w' w.heap.size v (l ++ l').length (l ++ l') ∧ Below w.heap.size w w':=by
  have e1:=h.len;have e2:=h'.len;subst e1 e2;have X:=zqh h;have Y:=zqh h';have hs : IntKind.i64.wrap ((l.length : Int) + (l'.length : Int)) = ((l.length + l'.length : Nat) : Int):=by
    rw [IntWalk.i64_in _ ⟨by omega,by omega⟩];simp
  have hp : decide (((l.length + l'.length : Nat) : Int) < 0) = false:=by simp; omega
  have hp0 : decide ((l.length : Int) < 0) = false:=by simp
  have HG:=zqh (bgrow_any (l.length + l'.length) w (by omega));clear h h';go_enter Tryz.func278,Tryz.ntmps278;(go_wp2_with fail);refine wp_loop_rounds 3 ?_
  iterate 3 (rw [rounds_succ]; go_wp2_with fail)
  refine HG.out.mono ?_;rintro e w1 ⟨v0,rfl,o0,b0⟩;have O0:=zqh o0;have B0:=zqh b0;have K0 : w1.cell? ⟨g,0,none⟩ = some (.slice A l.length c):=(b0.cell (p:=⟨g,0,none⟩) (World.block_lt_of_cell? _ _ H0)).trans H0;have X1:=zqh (X.out.keep b0);have HS:=zqh b0.size;have HH:=zqh H1;clear o0 b0 H0 H1 X HG;(go_wp2_with fail);refine wp_loop_rounds 3 ?_;rw [rounds_succ];(go_wp2_with (at_builtin; (refine wpList_bapp rfl _ _ rfl w.heap.size v0 0 [] rfl O0.out A l.length c l rfl X1.out (by omega) HS.out w B0.out (Nat.le_refl _) ?_; intro v1 w2 o1 b1 g1)));have O1:=zqh o1;have B1:=zqh b1;have K1 : w2.cell? ⟨g,1,none⟩ = some (.slice A' l'.length c'):=(b1.cell (p:=⟨g,1,none⟩) (World.block_lt_of_cell? _ _ HH.out)).trans HH.out;have Y1:=zqh (Y.out.keep b1);have HS1:=zqh b1.size;clear o1 b1 g1 K0 X1 O0 B0 HS;rw [rounds_succ];(go_wp2_with (at_builtin; (refine wpList_bapp rfl _ _ rfl w.heap.size v1 (0 + l.length) ([] ++ l) rfl O1.out A' l'.length c' l' rfl Y1.out (by omega) HS1.out w B1.out (Nat.le_refl _) ?_; intro v2 w3 o2 b2 g2)));have O2:=zqh o2;have B2:=zqh b2;clear o2 b2 g2 K1 Y1 O1 B1 HS1;rw [rounds_succ];(go_wp2_with fail);go_ret;refine ⟨v2,rfl,?_,B2.out⟩;have:=O2.out;rw [Nat.zero_add,List.nil_append,← List.length_append] at this;exact this
end Go.Proofs.YtlgnijhemfkflaaGreatDoor

namespace Go.Proofs.YtlgnijhemfkflaaGreatDoor
open Go.RowKit


theorem conv_in (t : List UInt8) (w : World) (ht : t.length ≤ 1000000) : ∃ c w',(convert 9 24 (.string (strB t))).run Tryz.prog w = .ok (.slice (some ⟨w.heap.size,0,none⟩) t.length c) w' ∧ Byt w' (.slice (some ⟨w.heap.size,0,none⟩) t.length c) t ∧ Below w.heap.size w w':=by
  have hsz : (strB t).size = t.length:=rfl;have h:=run_bytes_of_string (P:=Tryz.prog) w 9 24 5 (strB t) Tryz.underlying9 Tryz.underlying24 Tryz.underlying5;rw [hsz] at h;refine ⟨_,_,h,?_,?_⟩
  · refine ⟨_,_,rfl,grownCap_ge _ _ _ _,grownCap_le_maxLen _ _ _ _ (by unfold maxLen; omega),?_⟩
    refine .inr ⟨w.heap.size,0,rfl,by simp,fun j v hv => ?_⟩;have hb : ∀ (x : Obj),(w.drew.alloc x).heap[w.heap.size]? = some x:=fun x => by
      show (w.heap.push x)[w.heap.size]? = _;simp
    unfold World.cell?;rw [hb];show (bytesRow (strB t) _)[0 + j]? = some v;unfold bytesRow;rw [Nat.zero_add,Array.getElem?_append_left (by have:=(List.getElem?_eq_some_iff.1 hv).1; rw [u8s_len] at this; simpa [strB] using this)];simpa [strB,u8s] using hv
  · exact (Below.refl _ w).drew.alloc (Nat.le_refl _) _
def printC (l s : List UInt8) (co : Int) : Int:=if co - (l.length : Int) < (s.length : Int) then -260 else 0
def printL (l s : List UInt8) (co : Int) : List UInt8:=if co - (l.length : Int) < (s.length : Int) then l else l ++ s
theorem Byt.fresh {w1 w2 W : World} {B : Option Addr} {m d : Nat} {l : List UInt8} (h : Byt w1 (.slice B m d) l) (hf : ∀ b,B = some b → W.heap.size ≤ b.block) (hz : w1.heap.size ≤ w2.heap.size)
    (hs : ∀ g,W.heap.size ≤ g → g < w1.heap.size → w2.heap[g]? = w1.heap[g]?) : Byt w2 (.slice B m d) l:=by
  obtain ⟨A,c,e,h1,h2,h3⟩:=h;injection e with e1 e2 e3
  subst e1 e2 e3;refine ⟨_,_,rfl,h1,h2,?_⟩
  rcases h3 with h3 | ⟨g,o,e,hg,hc⟩
  · exact .inl h3
  · refine .inr ⟨g,o,e,by omega,fun j v hv => ?_⟩
    have:=hc j v hv;unfold World.cell? at this ⊢;rw [hs g (hf _ e) hg];exact this
end Go.Proofs.YtlgnijhemfkflaaGreatDoor

namespace Go.Proofs.YtlgnijhemfkflaaGreatDoor
open Go.RowKit


def codeB (n : Int) : Bool:=decide ((0 ≤ n ∧ n < 130) ∨ (256 ≤ n ∧ n ≤ 260) ∨ (300 ≤ n ∧ n < 337))
def kindV (m : PM) (L : Nat) (p : Int) : Int:=if cellC L p = 0 ∧ codeB (fetchF m p) = true then fetchF m p else 0
def kindC (m : PM) (L : Nat) (p : Int) : Int:=if cellC L p = 0 then (if codeB (fetchF m p) = true then 0 else -9) else cellC L p
end Go.Proofs.YtlgnijhemfkflaaGreatDoor

namespace Go.Proofs.YtlgnijhemfkflaaGreatDoor
open Go.RowKit


structure Sc (k j : VmK) : Prop where
  cm : k.cm = j.cm
  cd : k.cd = j.cd
  cr : k.cr = j.cr
  cw : k.cw = j.cw
  co : k.co = j.co
  here : k.here = j.here
  last : k.last = j.last
  qo : k.qo = j.qo
  free : k.free = j.free
  next : k.next = j.next
  arg : k.arg = j.arg
  self : k.self = j.self
  now : k.now = j.now
theorem Sc.refl (k : VmK) : Sc k k:=⟨rfl,rfl,rfl,rfl,rfl,rfl,rfl,rfl,rfl,rfl,rfl,rfl,rfl⟩
theorem Sc.symm {k j : VmK} (h : Sc k j) : Sc j k:=⟨h.cm.symm,h.cd.symm,h.cr.symm,h.cw.symm,h.co.symm,h.here.symm,h.last.symm,h.qo.symm,h.free.symm,h.next.symm,h.arg.symm,h.self.symm,h.now.symm⟩
theorem Sc.trans {k j i : VmK} (h : Sc k j) (g : Sc j i) : Sc k i:=⟨h.cm.trans g.cm,h.cd.trans g.cd,h.cr.trans g.cr,h.cw.trans g.cw,h.co.trans g.co,h.here.trans g.here,h.last.trans g.last,h.qo.trans g.qo,h.free.trans g.free,h.next.trans g.next,h.arg.trans g.arg,h.self.trans g.self,h.now.trans g.now⟩
theorem same_self {k j : VmK} (h : Sc k j) (L : VmL) : vSame k L j L = true:=by
  have h1 : confSame k j = true:=by unfold confSame; rw [decide_eq_true_eq]; exact ⟨h.cm,h.cd,h.cr,h.cw,h.co⟩
  have h2 : numsSame k j = true:=by unfold numsSame; rw [decide_eq_true_eq]; exact ⟨h.here,h.last,h.free,h.next,h.arg,h.self,h.now⟩
  unfold vSame;rw [h1,h2,fm_self,rq_self,hn_self,h.qo];simp [sameB,dSame,pSame]
def printV (k : VmK) (L : VmL) (s : List UInt8) : VmL:={ L with o:=printL L.o s k.co }
end Go.Proofs.YtlgnijhemfkflaaGreatDoor

namespace Go.Proofs.YtlgnijhemfkflaaGreatDoor
open Go.RowKit


theorem info_req : (Tryz.prog.info? 61).map (fun i => (i.zero,i.size,i.bytes)) = some (some (.agg #[.int .i64 0,.int .i64 0,.int .i64 0,.int .i64 0,.int .i64 0,.int .i64 0]),6,48):=by kernel_rfl
def rqs (l : List Rq) : List Value:=l.flatMap rqE
theorem rqs_cons (q : Rq) (l : List Rq) : rqs (q :: l) = .int .i64 q.kind :: .int .i64 q.arg :: .int .i64 q.hand :: .int .i64 q.rank :: .int .i64 q.delay :: .int .i64 q.id :: rqs l:=rfl
theorem rqs_len (l : List Rq) : (rqs l).length = l.length * 6:=by
  induction l with
  | nil => rfl
  | cons q l ih => rw [rqs_cons]; simp [ih]; omega
theorem rqs_one (l : List Rq) : ∀ v ∈ rqs l,v.oneCell' = true:=by
  intro v hv;unfold rqs at hv;rw [List.mem_flatMap] at hv;obtain ⟨q,_,hv⟩:=hv;unfold rqE at hv;simp at hv
  rcases hv with rfl | rfl | rfl | rfl | rfl | rfl <;> rfl
theorem rqs_app (a b : List Rq) : rqs (a ++ b) = rqs a ++ rqs b:=by simp [rqs]
abbrev QOwns (w : World) (base : Nat) (v : Value) (n : Nat) (l : List Rq) : Prop:=w.ownsRow base 61 6 v n (rqs l)
theorem QOwns.rqs {w : World} {base n : Nat} {v : Value} {l : List Rq} (h : QOwns w base v n l) : Rqs w v l:=by
  have hl:=h.1;rw [rqs_len] at hl;have hl : l.length = n:=by omega
  subst hl
  rcases h.2 with ⟨rfl,h0⟩ | ⟨g,cap,cur,rfl,_,hg,hnc,hcm,_,ht⟩
  · have : l = []:=List.eq_nil_of_length_eq_zero h0
    subst this;exact rws_nil _ w
  · refine ⟨some ⟨g,0,none⟩,cap,rfl,hnc,hcm,.inr ⟨g,0,rfl,(Array.getElem?_eq_some_iff.1 hg).1,fun j x hx => ?_⟩⟩
    have hx : (Go.Proofs.YtlgnijhemfkflaaGreatDoor.rqs l)[j]? = some x:=hx;rw [← ht,List.getElem?_take] at hx
    split at hx
    · rw [Nat.zero_add]
      simp [World.cell?,hg];simpa using hx
    · cases hx
theorem qown_from {w : World} {base e size n : Nat} {v : Value} {xs : List Value} (h : w.ownsRow base e size v n xs) : ∀ k,v.ownBlock = some k → base ≤ k:=fun k hk => (h.lt k hk).1
theorem rqs_newone (w : World) (q : Rq) : Rqs (w.alloc (.cells #[.int .i64 q.kind,.int .i64 q.arg,.int .i64 q.hand,.int .i64 q.rank,.int .i64 q.delay,.int .i64 q.id] 61)) (.slice (some ⟨w.heap.size,0,none⟩) 1 1) [q] :=
  ⟨_,_,rfl,Nat.le_refl _,by unfold maxLen; simp,lies_block (one_newN w _ _)⟩
theorem run_qapp {w : World} (ty : TypeId) {base n : Nat} {v : Value} {xs : List Rq} (hown : QOwns w base v n xs) {A : Option Addr} {m c : Nat} {ys : List Rq} (hr : Rqs w (.slice A m c) ys) (h63 : n + m ≤ 1000000) (hbase : base ≤ w.heap.size) :
    ∃ v' w',(Builtin.append_ #[33,33] ty #[v,.slice A m c]).run Tryz.prog w = .ok v' w' ∧ QOwns w' base v' (n + m) (xs ++ ys) ∧ w.grownBy w' v.ownBlock:=by
  obtain ⟨i0,hi,hz0,hz1,hz2⟩:=info_parts info_req;have h1:=hr.len;have h4 : Lies w A (Go.Proofs.YtlgnijhemfkflaaGreatDoor.rqs ys):=hr.lies;cases A with
  | some ad =>
    have hsrc : ∀ j u,(rqs ys)[j]? = some u → w.cell? (ad.add j) = some u:=by
      intro j u hu
      rcases h4 with h4 | ⟨g,o,e,_,hc⟩
      · rw [h4] at hu; simp at hu
      · injection e with e
        rw [e,add_at];exact hc j u hu
    obtain ⟨v',w',ha,hb,hc,_⟩:=run_append_own (P:=Tryz.prog) w base 33 ty 61 i0 (.agg #[.int .i64 0,.int .i64 0,.int .i64 0,.int .i64 0,.int .i64 0,.int .i64 0]) 6 48 Tryz.underlying33 hi hz0 hz1 hz2 rfl (by decide) v n (rqs xs) hown ad m c (rqs ys) (by rw [rqs_len,h1]) hsrc (rqs_one ys) (by unfold maxLen; omega) (by omega) hbase;exact ⟨v',w',ha,by have e:=rqs_app xs ys; unfold QOwns; rw [e]; exact hb,hc⟩
  | none =>
    have hnil : ys = []:=by
      rcases h4 with h | ⟨_,_,h,_⟩
      · have:=congrArg List.length h
        rw [rqs_len] at this;have h0 : ys.length * 6 = 0:=this;exact List.eq_nil_of_length_eq_zero (by omega)
      · cases h
    subst hnil;have hm : m = 0:=by rw [← h1]; rfl
    subst hm;refine ⟨v,w,?_,by simpa using hown,World.grownBy.refl w _⟩
    rcases hown.2 with ⟨rfl,rfl⟩ | ⟨g,cap,cur,rfl,_,_,hnc,_⟩
    · simp [Builtin.append_,run_underlying Tryz.underlying33,sizeOf,typeInfo,hi,Builtin.lenOf,Builtin.firstCells]
    · simp [Builtin.append_,run_underlying Tryz.underlying33,sizeOf,typeInfo,hi,Builtin.lenOf,Builtin.firstCells,hnc,storeCells]
theorem qapp_below {w0 w w' : World} {base n : Nat} {v : Value} {xs : List Rq} (hown : QOwns w base v n xs) (hb : Below w0.heap.size w0 w) (hg : w.grownBy w' v.ownBlock) (hB : w0.heap.size ≤ base) : Below w0.heap.size w0 w' :=
  hb.grown hg hb.size (fun k hk => Nat.le_trans hB (qown_from hown k hk))
theorem wp_qapp {o : Oper} {a : Act} {K : Act → World → Prop} {Q : Exit → Act → World → Prop} {w : World} (s x : Operand)
    (ho : o.op = .call { callee:=.builtin .append,args:=#[s,x],argTypes:=#[33,33] })
    (base : Nat) (v : Value) (n : Nat) (xs : List Rq) (hs : a.eval s = v) (hown : QOwns w base v n xs)
    (A : Option Addr) (m c : Nat) (ys : List Rq) (hx : a.eval x = .slice A m c) (hr : Rqs w (.slice A m c) ys) (h63 : n + m ≤ 1000000) (hbase : base ≤ w.heap.size)
    (w0 : World) (hb : Below w0.heap.size w0 w) (hB : w0.heap.size ≤ base)
    (h : ∀ v' w',QOwns w' base v' (n + m) (xs ++ ys) → Below w0.heap.size w0 w' → w.grownBy w' v.ownBlock → K (a.put o.dst v') w') : o.wp Tryz.prog a w K Q:=by
  obtain ⟨v',w',hr,h2,h3⟩:=run_qapp o.type hown hr h63 hbase;unfold Oper.wp execOp;simp only [ho,resolve,invoke,builtin,Sem.run_bind,Sem.run_pure,Result.andThen_ok,List.map_toArray,List.map_cons,List.map_nil,hs,hx,hr];exact h v' w' h2 (qapp_below hown hb h3 hB) h3
theorem wpList_qapp {ops : Array Oper} {rest : List Oper} {o : Oper} {a : Act} {Q : Exit → Act → World → Prop} {w : World} (hgd : o.guard = none) (s x : Operand)
    (ho : o.op = .call { callee:=.builtin .append,args:=#[s,x],argTypes:=#[33,33] })
    (base : Nat) (v : Value) (n : Nat) (xs : List Rq) (hs : a.eval s = v) (hown : QOwns w base v n xs)
    (A : Option Addr) (m c : Nat) (ys : List Rq) (hx : a.eval x = .slice A m c) (hr : Rqs w (.slice A m c) ys) (h63 : n + m ≤ 1000000) (hbase : base ≤ w.heap.size)
    (w0 : World) (hb : Below w0.heap.size w0 w) (hB : w0.heap.size ≤ base)
    (h : ∀ v' w',QOwns w' base v' (n + m) (xs ++ ys) → Below w0.heap.size w0 w' → w.grownBy w' v.ownBlock → wpList Tryz.prog ops Q rest (a.put o.dst v') w') : wpList Tryz.prog ops Q (o :: rest) a w :=
  wpList_plain hgd fun _ hK => wp_qapp s x ho base v n xs hs hown A m c ys hx hr h63 hbase w0 hb hB fun v' w' h2 h3 h4 => hK _ _ (h v' w' h2 h3 h4)
end Go.Proofs.YtlgnijhemfkflaaGreatDoor

namespace Go.Proofs
open Go.Shelf
def Tryz.growi_ren : Go.Shelf.Ren:=⟨fun | 4 => 284 | n => n,fun | 0 => 0 | 3 => 3 | 4 => 4 | 9 => 9 | 20 => 20 | 22 => 28 | 25 => 3 | n => n,fun | n => n⟩
theorem Tryz.growi_lays : Go.Proofs.Lays8.n4 Tryz.prog Tryz.growi_ren:={
  mixed:=by kernel_rfl
  f4 := ⟨"slices.Grow[[]int,int]", by decide, Tryz.func284.trans (congrArg some (by kernel_rfl))⟩
  t0:=Tryz.underlying0
  a0:=Tryz.isAgg0
  z0:=Tryz.sizeOf0
  v0:=Tryz.zeroValue0
  t3:=Tryz.underlying3
  a3:=Tryz.isAgg3
  z3:=Tryz.sizeOf3
  v3:=Tryz.zeroValue3
  t4:=Tryz.underlying4
  a4:=Tryz.isAgg4
  z4:=Tryz.sizeOf4
  v4:=Tryz.zeroValue4
  t9:=Tryz.underlying9
  a9:=Tryz.isAgg9
  z9:=Tryz.sizeOf9
  v9:=Tryz.zeroValue9
  t20:=Tryz.underlying20
  a20:=Tryz.isAgg20
  z20:=Tryz.sizeOf20
  v20:=Tryz.zeroValue20
  t22:=Tryz.underlying28
  a22:=Tryz.isAgg28
  z22:=Tryz.sizeOf28
  v22:=Tryz.zeroValue28 }
def Tryz.growq_ren : Go.Shelf.Ren:=⟨fun | 4 => 303 | n => n,fun | 0 => 0 | 3 => 3 | 4 => 4 | 9 => 9 | 20 => 20 | 22 => 33 | 25 => 61 | n => n,fun | n => n⟩
theorem Tryz.growq_lays : Go.Proofs.Lays8.n4 Tryz.prog Tryz.growq_ren:={
  mixed:=by kernel_rfl
  f4 := ⟨"slices.Grow[[]detent/api.Req,detent/api.Req]", by decide, Tryz.func303.trans (congrArg some (by kernel_rfl))⟩
  t0:=Tryz.underlying0
  a0:=Tryz.isAgg0
  z0:=Tryz.sizeOf0
  v0:=Tryz.zeroValue0
  t3:=Tryz.underlying3
  a3:=Tryz.isAgg3
  z3:=Tryz.sizeOf3
  v3:=Tryz.zeroValue3
  t4:=Tryz.underlying4
  a4:=Tryz.isAgg4
  z4:=Tryz.sizeOf4
  v4:=Tryz.zeroValue4
  t9:=Tryz.underlying9
  a9:=Tryz.isAgg9
  z9:=Tryz.sizeOf9
  v9:=Tryz.zeroValue9
  t20:=Tryz.underlying20
  a20:=Tryz.isAgg20
  z20:=Tryz.sizeOf20
  v20:=Tryz.zeroValue20
  t22:=Tryz.underlying33
  a22:=Tryz.isAgg33
  z22:=Tryz.sizeOf33
  v22:=Tryz.zeroValue33 }
end Go.Proofs
namespace Go.Proofs.YtlgnijhemfkflaaGreatDoor
open Go.RowKit Go.Lib Go.Shelf


theorem igrow_any (n : Nat) (w : World) (hn : n ≤ 200000) : Calls Tryz.prog 284 #[.slice none 0 0,.int .i64 (n : Int)] w fun e w' => ∃ v,e = .returned v ∧ Owns w' w.heap.size v 0 [] ∧ Below w.heap.size w w':=by
  by_cases h0 : n = 0
  · subst h0
    refine (Any8.slices_Grow_room Tryz.growi_lays none 0 0 0 w (Nat.le_refl _) (by decide) (by decide) (by decide)).mono ?_;rintro e w1 ⟨rfl,rfl⟩;exact ⟨_,rfl,⟨rfl,.inl ⟨rfl,rfl⟩⟩,Below.refl _ _⟩
  · obtain ⟨i0,hi,hz0,hz1,hz2⟩:=info_parts info_int
    have h:=Any8.slices_Grow_grow Tryz.growi_lays i0 _ hi hz0 (by rw [hz1]; decide) none 0 0 n [] w (Nat.le_refl _) (by omega) (by rw [hz2]; omega) (by omega) (by simp) (fun _ => rfl) (fun a e => by cases e);refine h.mono ?_;rintro e w1 ⟨rfl,rfl⟩;refine ⟨_,rfl,⟨rfl,.inr ⟨w.heap.size,_,_,rfl,Nat.le_refl _,one_newN w.drew _ _,Nat.zero_le _,grownCap_le_maxLen _ _ _ _ (by unfold maxLen; omega),?_,by simp [ints]⟩⟩,?_⟩
    · have hge:=grownCap_ge w (0 + n) 0 (Tryz.growi_ren.t 25)
      obtain ⟨G,hG⟩ : ∃ G,grownCap w (0 + n) 0 (Tryz.growi_ren.t 25) = G:=⟨_,rfl⟩;rw [hG] at hge ⊢;simp [Builtin.zeroCells,Value.cells];omega
    · exact (⟨rfl,rfl,rfl,Nat.le_refl _,fun _ _ => rfl⟩ : Below w.heap.size w w.drew).alloc (Nat.le_refl _) _
theorem icat_any (A A' : Option Addr) (n c n' c' : Nat) (l l' : List Int) (g : Nat) (w : World) (H0 : w.cell? ⟨g,0,none⟩ = some (.slice A n c)) (H1 : w.cell? ⟨g,1,none⟩ = some (.slice A' n' c'))
    (h : Row w A n c l) (h' : Row w A' n' c' l') (hl : l.length ≤ 100000) (hl' : l'.length ≤ 100000) :
    Calls Tryz.prog 242 #[.slice (some ⟨g,0,none⟩) 2 2] w fun e w' => ∃ v,e = .returned v ∧ Owns w' w.heap.size v (l ++ l').length (l ++ l') ∧ Below w.heap.size w w':=by
  have e1:=h.1;have e2:=h'.1;subst e1 e2;have X:=zqh h;have Y:=zqh h';have hs : IntKind.i64.wrap ((l.length : Int) + (l'.length : Int)) = ((l.length + l'.length : Nat) : Int):=by
    rw [IntWalk.i64_in _ ⟨by omega,by omega⟩];simp
  have hp : decide (((l.length + l'.length : Nat) : Int) < 0) = false:=by simp; omega
  have hp0 : decide ((l.length : Int) < 0) = false:=by simp
  have HG:=zqh (igrow_any (l.length + l'.length) w (by omega));clear h h';go_enter Tryz.func242,Tryz.ntmps242;(go_wp2_with fail);refine wp_loop_rounds 3 ?_
  iterate 3 (rw [rounds_succ]; go_wp2_with fail)
  refine HG.out.mono ?_;rintro e w1 ⟨v0,rfl,o0,b0⟩;have O0:=zqh o0;have B0:=zqh b0;have K0 : w1.cell? ⟨g,0,none⟩ = some (.slice A l.length c):=(b0.cell (p:=⟨g,0,none⟩) (World.block_lt_of_cell? _ _ H0)).trans H0;have X1:=zqh (X.out.keep b0);have HS:=zqh b0.size;have HH:=zqh H1;clear o0 b0 H0 H1 X HG;(go_wp2_with fail);refine wp_loop_rounds 3 ?_;rw [rounds_succ];(go_wp2_with (at_builtin; (refine wpList_app rfl _ _ rfl w.heap.size v0 0 [] rfl O0.out A l.length c l rfl X1.out (by omega) HS.out w B0.out (Nat.le_refl _) ?_; intro v1 w2 o1 b1)));have O1:=zqh o1;have B1:=zqh b1;have K1 : w2.cell? ⟨g,1,none⟩ = some (.slice A' l'.length c'):=(b1.cell (p:=⟨g,1,none⟩) (World.block_lt_of_cell? _ _ HH.out)).trans HH.out;have Y1:=zqh (Y.out.keep b1);have HS1:=zqh b1.size;clear o1 b1 K0 X1 O0 B0 HS;rw [rounds_succ];(go_wp2_with (at_builtin; (refine wpList_app rfl _ _ rfl w.heap.size v1 (0 + l.length) ([] ++ l) rfl O1.out A' l'.length c' l' rfl Y1.out (by omega) HS1.out w B1.out (Nat.le_refl _) ?_; intro v2 w3 o2 b2)));have O2:=zqh o2;have B2:=zqh b2;clear o2 b2 K1 Y1 O1 B1 HS1;rw [rounds_succ];(go_wp2_with fail);go_ret;refine ⟨v2,rfl,?_,B2.out⟩;have:=O2.out;rw [Nat.zero_add,List.nil_append,← List.length_append] at this;exact this
theorem qgrow_any (n : Nat) (w : World) (hn : n ≤ 200000) : Calls Tryz.prog 303 #[.slice none 0 0,.int .i64 (n : Int)] w fun e w' => ∃ v,e = .returned v ∧ QOwns w' w.heap.size v 0 [] ∧ Below w.heap.size w w':=by
  by_cases h0 : n = 0
  · subst h0
    refine (Any8.slices_Grow_room Tryz.growq_lays none 0 0 0 w (Nat.le_refl _) (by decide) (by decide) (by decide)).mono ?_;rintro e w1 ⟨rfl,rfl⟩;exact ⟨_,rfl,⟨rfl,.inl ⟨rfl,rfl⟩⟩,Below.refl _ _⟩
  · obtain ⟨i0,hi,hz0,hz1,hz2⟩:=info_parts info_req
    have h:=Any8.slices_Grow_grow Tryz.growq_lays i0 _ hi hz0 (by rw [hz1]; decide) none 0 0 n [] w (Nat.le_refl _) (by omega) (by rw [hz2]; omega) (by omega) (by simp) (fun _ => rfl) (fun a e => by cases e);refine h.mono ?_;rintro e w1 ⟨rfl,rfl⟩;refine ⟨_,rfl,⟨rfl,.inr ⟨w.heap.size,_,_,rfl,Nat.le_refl _,one_newN w.drew _ _,Nat.zero_le _,grownCap_le_maxLen _ _ _ _ (by unfold maxLen; omega),?_,by simp [rqs]⟩⟩,?_⟩
    · have hge:=grownCap_ge w (0 + n) 0 (Tryz.growq_ren.t 25)
      obtain ⟨G,hG⟩ : ∃ G,grownCap w (0 + n) 0 (Tryz.growq_ren.t 25) = G:=⟨_,rfl⟩;rw [hG] at hge ⊢;simp [Builtin.zeroCells,Value.cells];omega
    · exact (⟨rfl,rfl,rfl,Nat.le_refl _,fun _ _ => rfl⟩ : Below w.heap.size w w.drew).alloc (Nat.le_refl _) _
theorem qcat_any (A A' : Option Addr) (n c n' c' : Nat) (l l' : List Rq) (g : Nat) (w : World) (H0 : w.cell? ⟨g,0,none⟩ = some (.slice A n c)) (H1 : w.cell? ⟨g,1,none⟩ = some (.slice A' n' c'))
    (h : Rqs w (.slice A n c) l) (h' : Rqs w (.slice A' n' c') l') (hl : l.length ≤ 100000) (hl' : l'.length ≤ 100000) :
    Calls Tryz.prog 289 #[.slice (some ⟨g,0,none⟩) 2 2] w fun e w' => ∃ v,e = .returned v ∧ QOwns w' w.heap.size v (l ++ l').length (l ++ l') ∧ Below w.heap.size w w':=by
  have e1:=h.len;have e2:=h'.len;subst e1 e2;have X:=zqh h;have Y:=zqh h';have hs : IntKind.i64.wrap ((l.length : Int) + (l'.length : Int)) = ((l.length + l'.length : Nat) : Int):=by
    rw [IntWalk.i64_in _ ⟨by omega,by omega⟩];simp
  have hp : decide (((l.length + l'.length : Nat) : Int) < 0) = false:=by simp; omega
  have hp0 : decide ((l.length : Int) < 0) = false:=by simp
  have HG:=zqh (qgrow_any (l.length + l'.length) w (by omega));clear h h';go_enter Tryz.func289,Tryz.ntmps289;(go_wp2_with fail);refine wp_loop_rounds 3 ?_
  iterate 3 (rw [rounds_succ]; go_wp2_with fail)
  refine HG.out.mono ?_;rintro e w1 ⟨v0,rfl,o0,b0⟩;have O0:=zqh o0;have B0:=zqh b0;have K0 : w1.cell? ⟨g,0,none⟩ = some (.slice A l.length c):=(b0.cell (p:=⟨g,0,none⟩) (World.block_lt_of_cell? _ _ H0)).trans H0;have X1:=zqh (X.out.keep b0);have HS:=zqh b0.size;have HH:=zqh H1;clear o0 b0 H0 H1 X HG;(go_wp2_with fail);refine wp_loop_rounds 3 ?_;rw [rounds_succ];(go_wp2_with (at_builtin; (refine wpList_qapp rfl _ _ rfl w.heap.size v0 0 [] rfl O0.out A l.length c l rfl X1.out (by omega) HS.out w B0.out (Nat.le_refl _) ?_; intro v1 w2 o1 b1 g1)));have O1:=zqh o1;have B1:=zqh b1;have K1 : w2.cell? ⟨g,1,none⟩ = some (.slice A' l'.length c'):=(b1.cell (p:=⟨g,1,none⟩) (World.block_lt_of_cell? _ _ HH.out)).trans HH.out;have Y1:=zqh (Y.out.keep b1);have HS1:=zqh b1.size;clear o1 b1 g1 K0 X1 O0 B0 HS;rw [rounds_succ];(go_wp2_with (at_builtin; (refine wpList_qapp rfl _ _ rfl w.heap.size v1 (0 + l.length) ([] ++ l) rfl O1.out A' l'.length c' l' rfl Y1.out (by omega) HS1.out w B1.out (Nat.le_refl _) ?_; intro v2 w3 o2 b2 g2)));have O2:=zqh o2;have B2:=zqh b2;clear o2 b2 g2 K1 Y1 O1 B1 HS1;rw [rounds_succ];(go_wp2_with fail);go_ret;refine ⟨v2,rfl,?_,B2.out⟩;have:=O2.out;rw [Nat.zero_add,List.nil_append,← List.length_append] at this;exact this
end Go.Proofs.YtlgnijhemfkflaaGreatDoor
