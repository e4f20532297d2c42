/- Part 24. -/
import Derived.Test.YtcmldhjicjmmgaaGreatDoorXkAW
import Derived.Shelf.Strings.Repeat
import Derived.Lib.MinMax
set_option linter.unusedVariables false
set_option linter.unusedSimpArgs false
set_option maxRecDepth 100000
set_option maxHeartbeats 4000000

namespace Go.Proofs.YtcmldhjicjmmgaaGreatDoor
open Go.RowKit Go.ChangeMaps


abbrev DRow:=List (ByteArray × (VmK → VmL → Eff))
def Ents (w : World) : List MapEntry → DRow → Prop
  | [],[] => True
  | e :: es,x :: l => e.key = .string x.1 ∧ IsDeed w e.val x.2 ∧ Ents w es l
  | _,_ => False
def DMap (w : World) (b : Nat) (l : DRow) : Prop:=∃ es clock,w.heap[b]? = some (.map es clock) ∧ Ents w es.toList l
theorem Ents.keep {w w' : World} (k : Kp w w') : ∀ {es : List MapEntry} {l : DRow},Ents w es l → Ents w' es l
  | [],[],_ => trivial
  | e :: es,x :: l,⟨h1,h2,h3⟩ => ⟨h1,h2.keep k,Ents.keep k h3⟩
theorem Ents.snoc {w : World} {e : MapEntry} {x : ByteArray × (VmK → VmL → Eff)} (h1 : e.key = .string x.1) (h2 : IsDeed w e.val x.2) : ∀ {es : List MapEntry} {l : DRow},Ents w es l → Ents w (es ++ [e]) (l ++ [x])
  | [],[],_ => ⟨h1,h2,trivial⟩
  | e :: es,x :: l,⟨g1,g2,g3⟩ => ⟨g1,g2,Ents.snoc h1 h2 g3⟩
theorem same_no {k x : ByteArray} (h : x ≠ k) : Instr.sameNow .string (.string k) (.string x) = Option.some false:=by
  obtain ⟨r,hr,hi⟩:=MapKept.sameNow_of_keys (d:=.string) (a:=.string k) (b:=.string x) (by simp [MapKept.IsKey]) (by simp [MapKept.IsKey]);cases r with
  | false => exact hr
  | true => have:=hi.1 rfl; injection this with e; exact absurd e.symm h
theorem same_yes (k : ByteArray) : Instr.sameNow .string (.string k) (.string k) = Option.some true:=by
  obtain ⟨r,hr,hi⟩:=MapKept.sameNow_of_keys (d:=.string) (a:=.string k) (b:=.string k) (by simp [MapKept.IsKey]) (by simp [MapKept.IsKey]);rw [hi.2 rfl] at hr;exact hr
theorem Ents.none {w : World} {k : ByteArray} : ∀ {es : List MapEntry} {l : DRow} (i : Nat),Ents w es l → (∀ x ∈ l,x.1 ≠ k) → Instr.findNow .string (.string k) es i = some Option.none
  | [],[],_,_,_ => rfl
  | e :: es,x :: l,i,⟨h1,h2,h3⟩,hk => by
    have hr:=same_no (k:=k) (hk x (.head _));simp only [Instr.findNow,h1,hr];exact Ents.none (i + 1) h3 fun y hy => hk y (.tail _ hy)
theorem Ents.some {w : World} {k : ByteArray} {F : VmK → VmL → Eff} : ∀ {es : List MapEntry} {l : DRow} (i j : Nat),Ents w es l → l[j]? = Option.some (k,F) → (∀ (a : Nat),a < j → ∀ x,l[a]? = Option.some x → x.1 ≠ k) → ∃ v,Instr.findNow .string (.string k) es i = Option.some (Option.some (i + j,v)) ∧ IsDeed w v F
  | [],[],_,_,_,hj,_ => by simp at hj
  | e :: es,x :: l,i,0,⟨h1,h2,h3⟩,hj,_ => by
    obtain rfl : x = (k,F):=by simpa using hj
    refine ⟨e.val,?_,h2⟩;have hr:=same_yes k;simp only [Instr.findNow,h1,hr];rfl
  | e :: es,x :: l,i,j + 1,⟨h1,h2,h3⟩,hj,hb => by
    have hr:=same_no (k:=k) (hb 0 (by omega) x (by simp));obtain ⟨v,hv,hi⟩:=Ents.some (i + 1) j h3 (by simpa using hj) fun a ha y hy => hb (a + 1) (by omega) y (by simpa using hy)
    refine ⟨v,?_,hi⟩;simp only [Instr.findNow,h1,hr];rw [hv,show i + 1 + j = i + (j + 1) by omega]
theorem DMap.keep {w w' : World} {b : Nat} {l : DRow} (h : DMap w b l) (k : Below w.heap.size w w') : DMap w' b l:=by
  obtain ⟨es,c,h1,h2⟩:=h;exact ⟨es,c,(k.block b (Array.getElem?_eq_some_iff.1 h1).1).trans h1,h2.keep (kp_of k)⟩
theorem dmap_new (w : World) : DMap (w.alloc (.map #[] 0)) w.heap.size []:=⟨#[],0,heap_alloc_new w _,trivial⟩
theorem run_insertD {w : World} {b : Nat} {es : Array MapEntry} {clock : Nat} (hb : w.heap[b]? = some (.map es clock)) (k : ByteArray) (v : Value) (hn : Instr.findNow .string (.string k) es.toList 0 = some none) :
    ∃ w',(Instr.mapUpdate 159 (.map (some b)) (.string k) v).run Tryz.prog w = .ok () w' ∧ w'.heap[b]? = some (.map (es.push ⟨.string k,v,clock⟩) (clock + 1)) ∧ w.grownBy w' (some b) ∧ Kp w w':=by
  refine ⟨setBlock w b (.map (es.push ⟨.string k,v,clock⟩) (clock + 1)),?_,heap_setBlock_same hb _,⟨rfl,rfl,rfl,by simp [setBlock],fun i _ hi => heap_setBlock_other hb _ (fun e => hi (by rw [e]))⟩,⟨by simp [setBlock],?_⟩⟩
  · have hc : (Instr.checkKey false 10000 9 (.string k)).run Tryz.prog w = .ok () w:=MapKept.run_checkKey (n:=9999) Tryz.underlying9 (by simp [MapKept.IsKey]) false
    have hf:=MapKept.run_findKey (P:=Tryz.prog) (w:=w) Tryz.underlying9 hn;simp [Instr.mapUpdate,run_underlying Tryz.underlying159,MapKept.run_getObj_map hb,hc,hf,MapKept.run_setObj_map _ hb,Result.andThen,setBlock]
  · intro p _
    by_cases e : p.block = b
    · have h1:=heap_setBlock_same hb (.map (es.push ⟨.string k,v,clock⟩) (clock + 1))
      unfold World.cell?;rw [e,h1,hb]
    · have h1:=heap_setBlock_other hb (.map (es.push ⟨.string k,v,clock⟩) (clock + 1)) e
      unfold World.cell?;rw [h1]
theorem run_lookD {w : World} {b : Nat} {l : DRow} (h : DMap w b l) (k : ByteArray) (F : VmK → VmL → Eff) (j : Nat) (hj : l[j]? = some (k,F)) (hb : ∀ (a : Nat),a < j → ∀ x,l[a]? = some x → x.1 ≠ k) :
    ∃ v,(Instr.lookup 159 (.map (some b)) (.string k) false).run Tryz.prog w = .ok v w ∧ IsDeed w v F:=by
  obtain ⟨es,clock,h1,h2⟩:=h;obtain ⟨v,hv,hi⟩:=h2.some 0 j hj hb;refine ⟨v,?_,hi⟩;have hc : ∀ e : Bool,(Instr.checkKey e 10000 9 (.string k)).run Tryz.prog w = .ok () w:=fun e => MapKept.run_checkKey (n:=9999) Tryz.underlying9 (by simp [MapKept.IsKey]) e
  have hf:=MapKept.run_findKey (P:=Tryz.prog) (w:=w) Tryz.underlying9 hv;simp [Instr.lookup,run_underlying Tryz.underlying159,MapKept.run_getObj_map h1,hc,hf,Result.andThen]
theorem IsDeed.as {W : World} {v : Value} {F G : VmK → VmL → Eff} (h : IsDeed W v F) (e : ∀ k L,F k L = G k L) : IsDeed W v G:=by
  have : F = G:=by funext k L; exact e k L
  exact this ▸ h
abbrev doF (n : Int) : VmK → VmL → Eff:=fun k L => doE n k L
def MapOut (l : DRow) (w : World) (e : Ending) (w' : World) : Prop:=∃ b,e = .returned (.map (some b)) ∧ DMap w' b l ∧ Below w.heap.size w w'
open Go.RowKit


theorem wpList_updateD {ops : Array Oper} {rest : List Oper} {o : Oper} {a : Act} {Q : Exit → Act → World → Prop} {w : World} (hg : o.guard = none) (m x v : Operand) (hop : o.op = Op.mapUpdate 159 m x v)
    (b : Nat) (l : DRow) (k : ByteArray) (u : Value) (F : VmK → VmL → Eff) (hm : a.eval m = .map (some b)) (hx : a.eval x = .string k) (hv : a.eval v = u) (hb : DMap w b l) (hi : IsDeed w u F) (hn : ∀ y ∈ l,y.1 ≠ k)
    (hK : ∀ w',DMap w' b (l ++ [(k,F)]) → w.grownBy w' (some b) → wpList Tryz.prog ops Q rest (a.put o.dst undef) w') :
    wpList Tryz.prog ops Q (o :: rest) a w:=by
  refine wpList_plain hg fun K' hK' => ?_
  obtain ⟨es,clock,h1,h2⟩:=hb;obtain ⟨w',hrun,r1,r2,r3⟩:=run_insertD h1 k u (h2.none 0 hn);unfold Oper.wp;simp [execOp,hop,hm,hx,hv,hrun,Result.andThen];refine hK' _ _ (hK w' ⟨_,_,r1,?_⟩ r2);rw [Array.toList_push];exact Ents.snoc rfl (hi.keep r3) (h2.keep r3)
theorem makeD (n : Int) (w : World) : (Instr.makeMap 159 (some (.int .i64 n))).run Tryz.prog w = .ok (.map (some w.heap.size)) (w.alloc (.map #[] 0)):=by
  simp [Instr.makeMap,run_underlying Tryz.underlying159,asInt,newObj,Result.andThen];rfl
abbrev eachL (ls : List (List UInt8)) (F : List UInt8 → VmK → VmL → Eff) : DRow:=ls.map fun s => (strB s,F s)
theorem each_snoc {ls : List (List UInt8)} {i : Nat} {s : List UInt8} (h : ls[i]? = some s) (F : List UInt8 → VmK → VmL → Eff) : eachL (ls.take (i + 1)) F = eachL (ls.take i) F ++ [(strB s,F s)]:=by
  unfold eachL;rw [List.take_add_one,h];simp
theorem each_new {ls : List (List UInt8)} {i : Nat} {s : List UInt8} (hd : (ls.map strB).Nodup) (h : ls[i]? = some s) (F : List UInt8 → VmK → VmL → Eff) : ∀ y ∈ eachL (ls.take i) F,y.1 ≠ strB s:=by
  intro y hy e;unfold eachL at hy;rw [List.mem_map] at hy;obtain ⟨t,ht,rfl⟩:=hy;obtain ⟨j,hj,ej⟩:=List.getElem_of_mem ht;have hji : j < i:=by simp at hj; omega
  obtain ⟨hi,ei⟩:=List.getElem?_eq_some_iff.1 h;have hjl : j < ls.length:=by omega
  have e1 : ls[j] = t:=by rw [← ej]; simp
  rw [List.Nodup,List.pairwise_iff_getElem] at hd;have:=hd j i (by simpa using hjl) (by simpa using hi) hji;simp [e1,ei] at this;exact this e
theorem each_any (A : Option Addr) (n c : Nat) (ls : List (List UInt8)) (g : FuncId) (eg : Ent g) (F : List UInt8 → VmK → VmL → Eff) (w : World) (hs : Sts w (.slice A n c) ls) (hn : n ≤ 1000) (hd : (ls.map strB).Nodup)
    (hg : ∀ s w,Calls Tryz.prog g #[.string (strB s)] w (Makes (F s) w)) : Calls Tryz.prog 92 #[.slice A n c,.func (.func g) #[] #[]] w (MapOut (eachL ls F) w):=by
  have hl:=hs.len;subst hl;have hmm:=makeD;have HS:=zqh hs;have HN : Hid (ls.length ≤ 1000):=hn;have HD:=zqh hd;have HG:=zqh hg;have M0 : Hid (DMap (w.alloc (.map #[] 0)) w.heap.size []):=dmap_new w;have B0 : Hid (Below w.heap.size w (w.alloc (.map #[] 0))):=zqh (below_one _ _);clear hs hn hd hg;go_enter Tryz.func92,Tryz.ntmps92;(go_wp2_with fail)
  go_loopw [13] (fun s13 wr => ∃ k : Nat,s13 = .int .i64 (k : Int) ∧ k ≤ ls.length ∧ Hid (DMap wr w.heap.size (eachL (ls.take k) F)) ∧ Hid (Below w.heap.size w wr)) (fun s13 _ => ls.length - (intOf s13).toNat)
  case atStart => exact ⟨0,rfl,Nat.zero_le _,M0,B0⟩
  case round =>
    obtain ⟨k,rfl,hk,HM,HB⟩:=hrel
    by_cases hkl : k < ls.length
    · have hx : ls[k]? = some ls[k]:=List.getElem?_eq_getElem hkl
      obtain ⟨q,eq⟩ : ∃ q,ls[k] = q:=⟨_,rfl⟩;obtain ⟨g1,o1,rfl,c1⟩:=sts_cell (HS.out.keep HB.out) hkl;rw [eq] at hx c1;have HX:=zqh hx;have hkl' : (k : Int) < (ls.length : Int):=by omega
      have hln:=HN.out;clear hx eq hk;(go_wp2_with fail);refine (HG.out q _).mono ?_;rintro e u ⟨d,rfl,hd,bb⟩;have N1:=zqh (HM.out.keep bb);have A1:=zqh (below_then HB.out bb);have D1 : Hid (IsDeed u d (F q)):=zqh hd;clear HM HB hd bb c1;(go_wp2_with (refine wpList_updateD rfl _ _ _ rfl w.heap.size _ (strB q) d (F q) rfl rfl rfl N1.out D1.out (each_new HD.out HX.out F) ?_; intro v hm hg; have M1:=zqh hm; have B1:=zqh (A1.out.grown hg A1.out.size (fun k hk => by cases hk; exact Nat.le_refl _)); clear N1 A1 D1 hm hg));have M2 : Hid (DMap v w.heap.size (eachL (ls.take (k + 1)) F)):=by
        show DMap _ _ _;rw [each_snoc HX.out F];exact M1.out
      go_roundw
      case rel => exact ⟨k + 1,(by first | rfl | (rw [w64_id (by omega) (by omega)]; rfl)),hkl,M2,B1⟩
      case measure => first | (simp [intOf]; done) | (simp [intOf]; omega) | (rw [w64_id (by omega) (by omega)]; simp [intOf]; omega)
    · obtain rfl : k = ls.length:=by omega
      rw [List.take_length] at HM;clear hkl hk;(go_wp2_with fail);go_ret;exact ⟨_,rfl,HM.out,HB.out⟩


def DeedsOut (n : Nat) (w : World) (e : Ending) (w' : World) : Prop:=∃ (b : Nat) (l : DRow) (j : Nat),e = .returned (.map (some b)) ∧ DMap w' b l ∧ l[j]? = some (strB (nmP n),doF n) ∧ (l.map (·.1)).Nodup ∧ Below w.heap.size w w'
theorem lies_part {w : World} {g a b : Nat} {xs : List Value} (h : Lies w (some ⟨g,0,none⟩) xs) : Lies w (some ⟨g,a,none⟩) ((xs.take b).drop a):=by
  rcases h with h | ⟨g',o,e,hg,hc⟩
  · exact .inl (by rw [h]; simp)
  · injection e with e
    injection e with e1 e2 _
    subst e1 e2;refine .inr ⟨g,a,rfl,hg,fun j v hv => ?_⟩;have:=hc (a + j) v;rw [Nat.zero_add] at this
    apply this
    rw [List.getElem?_drop,List.getElem?_take] at hv
    split at hv
    · exact hv
    · cases hv
theorem sts_part {w : World} {g n c : Nat} {l : List (List UInt8)} (h : Sts w (.slice (some ⟨g,0,none⟩) n c) l) {a b : Nat} (hab : a ≤ b) (hb : b ≤ n) : Sts w (.slice (some ⟨g,a,none⟩) (b - a) (c - a)) ((l.take b).drop a):=by
  have hl:=h.len;have h4:=lies_part (a:=a) (b:=b) h.lies;obtain ⟨A',c',e,h1,h2,_⟩:=h;injection e with e1 e2 e3
  subst e1 e3;have e9 : ((l.take b).drop a).length = b - a:=by rw [List.length_drop,List.length_take]; omega
  refine ⟨_,_,by rw [e9],by rw [e9]; omega,by omega,?_⟩;have : (sts l).take b = sts (l.take b):=by simp [sts,List.map_take]
  rw [this] at h4;have : (sts (l.take b)).drop a = sts ((l.take b).drop a):=by simp [sts,List.map_drop]
  rwa [this] at h4
theorem strB_list (s : List UInt8) : (strB s).data.toList = s:=by simp [strB]
theorem do_shuffled (n : Nat) (h1 : 23 ≤ n) (h2 : n < 39) (k : VmK) (L : VmL) : doE (n : Int) k L = (shufE (nmP n)) k L:=by
  unfold doE;rw [if_pos (by omega),if_pos (by omega)];rw [show ((n : Int).toNat) = n from by omega]
theorem nd_shuffled : (((primL.take 39).drop 23).map strB).Nodup:=by decide +kernel
theorem at_shuffled (n : Nat) (h1 : 23 ≤ n) (h2 : n < 39) : (eachL ((primL.take 39).drop 23) (fun s => shufE s))[n - 23]? = some (strB (nmP n),doF n):=by
  have hl : primL.length = 130:=by decide +kernel
  unfold eachL;rw [List.getElem?_map,List.getElem?_drop,List.getElem?_take,if_pos (by omega),show 23 + (n - 23) = n from by omega,List.getElem?_eq_getElem (by omega)];have e : primL[n]'(by omega) = nmP n:=by unfold nmP; rw [List.getD_eq_getElem?_getD,List.getElem?_eq_getElem (by omega)]; rfl
  rw [e];show some (strB (nmP n),_) = _
  congr 2
  funext k L
  exact (do_shuffled n h1 h2 k L).symm
theorem keys_shuffled : ((eachL ((primL.take 39).drop 23) (fun s => shufE s)).map (·.1)).Nodup:=by
  have e : (eachL ((primL.take 39).drop 23) (fun s => shufE s)).map (·.1) = ((primL.take 39).drop 23).map strB:=by
    unfold eachL;rw [List.map_map];rfl
  rw [e];exact nd_shuffled
theorem do_reckonedOfTwo (n : Nat) (h1 : 39 ≤ n) (h2 : n < 59) (k : VmK) (L : VmL) : doE (n : Int) k L = (deedE 2 (fun k L x => twoE (nmP n) k L (x.getD 0 0) (x.getD 1 0))) k L:=by
  have e1 : takesF n = 2:=by unfold takesF; rw [if_pos (by omega)]
  have e2 : ∀ k L x,effF n k L x = twoE (nmP n) k L (x.getD 0 0) (x.getD 1 0):=by intro k L x; unfold effF; rw [if_pos (by omega)]
  unfold doE;rw [if_pos (by omega),if_neg (by omega)];rw [show ((n : Int).toNat) = n from by omega];rw [e1];unfold deedE;simp only [e2]
theorem nd_reckonedOfTwo : (((primL.take 59).drop 39).map strB).Nodup:=by decide +kernel
theorem at_reckonedOfTwo (n : Nat) (h1 : 39 ≤ n) (h2 : n < 59) : (eachL ((primL.take 59).drop 39) (fun s => deedE 2 (fun k L x => twoE s k L (x.getD 0 0) (x.getD 1 0))))[n - 39]? = some (strB (nmP n),doF n):=by
  have hl : primL.length = 130:=by decide +kernel
  unfold eachL;rw [List.getElem?_map,List.getElem?_drop,List.getElem?_take,if_pos (by omega),show 39 + (n - 39) = n from by omega,List.getElem?_eq_getElem (by omega)];have e : primL[n]'(by omega) = nmP n:=by unfold nmP; rw [List.getD_eq_getElem?_getD,List.getElem?_eq_getElem (by omega)]; rfl
  rw [e];show some (strB (nmP n),_) = _
  congr 2
  funext k L
  exact (do_reckonedOfTwo n h1 h2 k L).symm
theorem keys_reckonedOfTwo : ((eachL ((primL.take 59).drop 39) (fun s => deedE 2 (fun k L x => twoE s k L (x.getD 0 0) (x.getD 1 0)))).map (·.1)).Nodup:=by
  have e : (eachL ((primL.take 59).drop 39) (fun s => deedE 2 (fun k L x => twoE s k L (x.getD 0 0) (x.getD 1 0)))).map (·.1) = ((primL.take 59).drop 39).map strB:=by
    unfold eachL;rw [List.map_map];rfl
  rw [e];exact nd_reckonedOfTwo
theorem deeds_23 (n : Nat) (h1 : 23 ≤ n) (h2 : n < 39) (g : Nat) (w : World) (hs : Sts w (.slice (some ⟨g,0,none⟩) 130 130) primL) : Calls Tryz.prog 76 #[.slice (some ⟨g,0,none⟩) 130 130,.int .i64 (n : Int)] w (DeedsOut n w):=by
  have HC:=zqh (each_any _ _ _ _ 93 (enters_of Tryz.func93 (by kernel_rfl) rfl) (fun s => shufE s) w (sts_part hs (a:=23) (b:=39) (by decide) (by decide)) (by decide) nd_shuffled (fun s w => by have:=shuffled_is (strB s) w; rwa [strB_list] at this));have HM:=zqh (at_shuffled n h1 h2);have HK:=zqh keys_shuffled;have g39 : (n : Int) < 39:=by omega
  clear hs h1 h2;go_enter Tryz.func76,Tryz.ntmps76;(go_wp2_with fail);refine HC.out.mono ?_;rintro e w1 ⟨b,rfl,hm,bb⟩;(go_wp2_with fail);go_ret;exact ⟨b,_,_,rfl,hm,HM.out,HK.out,bb⟩
theorem deeds_39 (n : Nat) (h1 : 39 ≤ n) (h2 : n < 59) (g : Nat) (w : World) (hs : Sts w (.slice (some ⟨g,0,none⟩) 130 130) primL) : Calls Tryz.prog 76 #[.slice (some ⟨g,0,none⟩) 130 130,.int .i64 (n : Int)] w (DeedsOut n w):=by
  have HC:=zqh (each_any _ _ _ _ 94 (enters_of Tryz.func94 (by kernel_rfl) rfl) (fun s => deedE 2 (fun k L x => twoE s k L (x.getD 0 0) (x.getD 1 0))) w (sts_part hs (a:=39) (b:=59) (by decide) (by decide)) (by decide) nd_reckonedOfTwo (fun s w => by have:=reckonedOfTwo_is (strB s) w; rwa [strB_list] at this));have HM:=zqh (at_reckonedOfTwo n h1 h2);have HK:=zqh keys_reckonedOfTwo;have g39 : decide ((n : Int) < 39) = false:=by simp; omega
  have g59 : (n : Int) < 59:=by omega
  clear hs h1 h2;go_enter Tryz.func76,Tryz.ntmps76;(go_wp2_with fail);refine HC.out.mono ?_;rintro e w1 ⟨b,rfl,hm,bb⟩;(go_wp2_with fail);go_ret;exact ⟨b,_,_,rfl,hm,HM.out,HK.out,bb⟩


theorem does_anyI (n : Int) (w : World) : Calls Tryz.prog 60 #[.int .i64 n] w fun e w' => e = .returned (.bool (decide (23 ≤ n ∧ n ≤ 129))) ∧ w = w':=by
  by_cases h1 : 23 ≤ n
  · by_cases h2 : n < 130
    · have H:=zqh (decide_eq_true (show 23 ≤ n ∧ n ≤ 129 from ⟨h1,by omega⟩))
      rw [H.out];go_enter Tryz.func60,Tryz.ntmps60;go_wp2;go_ret;exact ⟨rfl,rfl⟩
    · have H:=zqh (decide_eq_false (show ¬ (23 ≤ n ∧ n ≤ 129) from fun h => by omega))
      have g2 : decide (n < 130) = false:=by simp; omega
      rw [H.out];clear h2;go_enter Tryz.func60,Tryz.ntmps60;go_wp2;go_ret;exact ⟨rfl,rfl⟩
  · have H:=zqh (decide_eq_false (show ¬ (23 ≤ n ∧ n ≤ 129) from fun h => by omega))
    have g1 : decide (23 ≤ n) = false:=by simp; omega
    rw [H.out];clear h1;go_enter Tryz.func60,Tryz.ntmps60;go_wp2;go_ret;exact ⟨rfl,rfl⟩
theorem nodup_firstI {l : DRow} (h : (l.map (·.1)).Nodup) {j : Nat} {k : ByteArray} {F : VmK → VmL → Eff} (hj : l[j]? = some (k,F)) : ∀ (a : Nat),a < j → ∀ x,l[a]? = some x → x.1 ≠ k:=by
  intro a ha x hx e;obtain ⟨h1,e1⟩:=List.getElem?_eq_some_iff.1 hj;obtain ⟨h2,e2⟩:=List.getElem?_eq_some_iff.1 hx;rw [List.Nodup,List.pairwise_iff_getElem] at h;have:=h a j (by simpa using h2) (by simpa using h1) ha;simp [e1,e2] at this;exact this e
theorem nmP_atI (m : Nat) (h : m < 130) : primL[m]? = some (nmP m):=by
  have hl : primL.length = 130:=by decide +kernel
  unfold nmP;rw [List.getD_eq_getElem?_getD,List.getElem?_eq_getElem (by omega)];rfl
theorem sts_rowI {w : World} {g b n c : Nat} {l : List (List UInt8)} (h : Sts w (.slice (some ⟨g,0,none⟩) n c) l) (hne : g ≠ b) (cs : Array Value) : Sts (w.setRow b cs) (.slice (some ⟨g,0,none⟩) n c) l:=by
  obtain ⟨A',c',e,h1,h2,h4⟩:=h;refine ⟨A',c',e,h1,h2,?_⟩;injection e with e1 e2 e3
  subst e1
  rcases h4 with h4 | ⟨g',o,e,hg,hc⟩
  · exact .inl h4
  · injection e with e
    injection e with ea eo _
    subst ea eo;refine .inr ⟨g,0,rfl,by rw [size_setRow]; exact hg,fun j v hv => ?_⟩;have:=hc j v hv;unfold World.cell? at this ⊢;rw [show (w.setRow b cs).heap[(⟨g,0 + j,none⟩ : Addr).block]? = w.heap[(⟨g,0 + j,none⟩ : Addr).block]? from setRow_other w b g cs (by omega)];exact this
theorem sts_isI {w : World} {b n c : Nat} {l : List (List UInt8)} (h : Sts w (.slice (some ⟨b,0,none⟩) n c) l) {i : Nat} {s : List UInt8} (hs : l[i]? = some s) : w.cell? ⟨b,i,none⟩ = some (.string (strB s)):=by
  obtain ⟨hi,hv⟩:=List.getElem?_eq_some_iff.1 hs;obtain ⟨g,o,e,hc⟩:=sts_cell h hi;injection e with e
  injection e with e1 e2 _
  subst e1 e2;rw [hv,Nat.zero_add] at hc;exact hc
theorem do_at (m : Nat) (hm0 : 23 ≤ m) (hm2 : m < 130) (HD9 : ∀ (g : Nat) (w : World),Sts w (.slice (some ⟨g,0,none⟩) 130 130) primL → Calls Tryz.prog 76 #[.slice (some ⟨g,0,none⟩) 130 130,.int .i64 (m : Int)] w (DeedsOut m w)) (k : VmK) (L : VmL) (w : World) (HT : Tab w) (ok : Ok k L) (h : IsVm w k L) : Calls Tryz.prog 61 #[vmV k,.int .i64 (m : Int)] w (DeedOut (doE (m : Int) k L) k w):=by
  have V0:=zqh h;have T0:=zqh HT;have ok9:=zqh ok;have hn : 23 ≤ (m : Int) ∧ (m : Int) ≤ 129:=by omega
  have HQ:=zqh fun w => does_anyI (m : Int) w
  rw [decide_eq_true hn] at HQ;have HM:=zqh (And.intro hm0 hm2);have HN : Hid (primL[m]? = some (nmP m)):=zqh (nmP_atI m (by omega));have hm1 : (m : Int) < 130:=by omega
  clear h HT ok hn hm0 hm2;go_enter Tryz.func61,Tryz.ntmps61;go_upto_region 1 with fail
  generalize hw1 : World.alloc (World.alloc _ _) _ = w1;have kb : Below w.heap.size w w1:=by rw [← hw1]; exact al_two _ _ _
  have kx : VBox w1 w.heap.size k:=by rw [← hw1]; exact (in_two w k _).2
  have kz : VBox w1 (w.heap.size + 1) vm0:=by rw [← hw1]; exact in_two0 w _
  have KS : Hid (w1.heap.size = w.heap.size + 1 + 1):=by show _ = _; rw [← hw1]; exact in_twos w _ _
  clear hw1;have X1:=zqh kx;have Z1:=zqh kz;have B1:=zqh kb;clear kx kz kb;(go_wp2_with fail);refine (HQ.out _).mono ?_;rintro e w9 ⟨rfl,rfl⟩;clear HQ;(go_wp2_with fail);refine (names_any _ (T0.out.keep B1.out)).mono ?_;rintro e w2 ⟨rfl,hs,bb⟩;have X2:=zqh (X1.out.keep bb);have Z2:=zqh (Z1.out.keep bb);have B2:=zqh (below_then B1.out bb);have S2:=zqh hs;have HC:=zqh fun w hs => HD9 w1.heap.size w hs
  clear X1 Z1 B1 bb hs T0;go_upto_region 4 with fail
  refine wp_region_noPanic ?_;refine wp_region_held_drew (S:=fun a9 => Below w.heap.size w a9 ∧ VBox a9 w.heap.size k ∧ (∃ j0,VBox a9 (w.heap.size + 1) j0) ∧ Sts a9 (.slice (some ⟨w1.heap.size,0,none⟩) 130 130) primL) (by kernel_rfl) ?_ (fun hHeld => ?_)
  · exact ⟨B2.out.drew,X2.out,⟨_,Z2.out⟩,S2.out⟩
  refine zqa 0 ?_;refine zqa 1 ?_;refine zqa 3 ?_;refine zqa 4 ?_;refine zqa 5 ?_;refine zqf 6 (fun u hSu => sts_isI hSu.2.2.2 HN.out) ?_;refine zqt (i:=8) (v:=vmV k) (fun u hSu => exec_vl _ rfl w.heap.size k rfl hSu.2.1) ?_;(try simp only [zq,Act.put]);refine zqr 2 fun K hK => ?_
  go_simp;refine (HC.out _ hHeld.2.2.2).mono ?_;rintro e u1 ⟨b,l,j9,rfl,hm,hj,hd,bb⟩;obtain ⟨j0,hz⟩:=hHeld.2.2.1;have hN : Below w.heap.size w u1 ∧ VBox u1 w.heap.size k ∧ (∃ j0,VBox u1 (w.heap.size + 1) j0) ∧ Sts u1 (.slice (some ⟨w1.heap.size,0,none⟩) 130 130) primL:=⟨below_then hHeld.1 bb,hHeld.2.1.keep bb,⟨j0,hz.keep bb⟩,hHeld.2.2.2.keep bb⟩;obtain ⟨v9,hv9,hi9⟩:=run_lookD hm (strB (nmP m)) (doF m) j9 hj (nodup_firstI hd hj);(go_wp2_with fail);clear bb hz hm hj hd;clear hHeld;refine hK.out _ _ hN (fun hHeld => ?_);clear hK K hN;(try simp only [zq,Act.put]);refine zqr 7 fun K hK => ?_
  go_simp;have hN:=hHeld;clear hv9;clear hHeld;refine hK.out _ _ hN (fun hHeld => ?_);clear hK K hN;(try simp only [zq,Act.put]);refine zqr 9 fun K hK => ?_
  obtain ⟨g9,cs9,rfl,eg9,hc9⟩:=hi9;have HD:=zqh (hc9 u1 k L (kp_of (Below.refl _ _)) ok9.out (V0.out.keep hHeld.1));have HB9:=zqh hHeld.1.size;clear hc9;go_simp;refine HD.out.mono ?_;rintro e u2 ⟨j,rfl,hv,hs,hl,bb⟩;obtain ⟨j0,hz⟩:=hHeld.2.2.1;have hN : Below w.heap.size w u2 ∧ VBox u2 w.heap.size k ∧ (∃ j0,VBox u2 (w.heap.size + 1) j0) ∧ Sts u2 (.slice (some ⟨w1.heap.size,0,none⟩) 130 130) primL:=⟨below_then hHeld.1 bb,hHeld.2.1.keep bb,⟨j0,hz.keep bb⟩,hHeld.2.2.2.keep bb⟩;have HZ:=zqh hz.lt;have HV:=zqh hv;have HS:=zqh hs;have HL:=zqh hl;have HZ0:=zqh (hz.keep bb);(go_wp2_with fail);clear bb hz hv hs hl;clear hHeld;refine hK.out _ _ hN (fun hHeld => ?_);clear hK K hN;(try simp only [zq,Act.put]);refine zqa 10 ?_;refine zqa 11 ?_;refine zqr 12 fun K hK => ?_
  obtain ⟨j7,hz⟩:=hHeld.2.2.1;refine step_vst rfl _ _ rfl (w.heap.size + 1) j7 j rfl rfl hz ?_;have kb2:=below_setRow hHeld.1 (show w.heap.size ≤ w.heap.size + 1 by omega) (vmC j);have hr2:=vrow hz j;refine hK.out _ _ ⟨kb2,vrow_fr hHeld.2.1 (by omega) _,⟨j,hr2⟩,sts_rowI hHeld.2.2.2 (by have:=KS.out; omega) _⟩ (fun hHeld2 => ?_);clear hK K;(try simp only [zq,Act.put]);refine zqa 13 ?_;refine wpAnyH_done (by kernel_rfl) ?_ _;refine NoPanic.normal ?_;(go_wp2_with fail);refine bodyPost_ret (res_ct rfl _ _ _ _ rfl hr2) rfl ⟨j,rfl,?_,HS.out,HL.out.le HB9.out,kb2⟩;refine V0.out.ex (X:=fun g => g = w.heap.size + 1) HV.out HL.out (Ex.row (X:=fun g => g = w.heap.size + 1) (b:=w.heap.size + 1) (Ex.refl _ _) rfl _) fun g hg e => ?_
  subst e;exact ⟨by omega,HZ.out,vbox_nou8 HZ0.out⟩


def ScE (E F : Eff) : Prop:=E.c = F.c ∧ E.o = F.o ∧ E.L = F.L ∧ Sc E.K F.K
theorem eff_sc {j k : VmK} (h : Sc j k) (n : Nat) (L : VmL) (x : List Int) (h1 : n < 130) : ScE (effF n j L x) (effF n k L x):=by
  have hh:=h;obtain ⟨jcm,jcd,jcr,jcw,jco,jmA,jmn,jmc,jpA,jpn,jpc,jhere,jdA,jdn,jdc,jrA,jrn,jrc,jfA,jfn,jfc,jwA,jwn,jwc,jlast,joA,jon,joc,jqA,jqn,jqc,jqo,jeA,jen,jec,jfree,jnext,jarg,jself,jnow,jhA,jhn,jhc⟩:=j;obtain ⟨a1,a2,a3,a4,a5,a6,a7,a8,a9,a10,a11,a12,a13⟩:=h;simp only at a1 a2 a3 a4 a5 a6 a7 a8 a9 a10 a11 a12 a13;subst a1 a2 a3 a4 a5 a6 a7 a8 a9 a10 a11 a12 a13;unfold effF
  by_cases q1 : n < 59
  · rw [if_pos q1,if_pos q1]; exact ⟨rfl,rfl,rfl,hh⟩
  · rw [if_neg q1,if_neg q1]
    by_cases q2 : n < 73
    · rw [if_pos q2,if_pos q2]; exact ⟨rfl,rfl,rfl,hh⟩
    · rw [if_neg q2,if_neg q2]
      have hn : n = 73 ∨ n = 74 ∨ n = 75 ∨ n = 76 ∨ n = 77 ∨ n = 78 ∨ n = 79 ∨ n = 80 ∨ n = 81 ∨ n = 82 ∨ n = 83 ∨ n = 84 ∨ n = 85 ∨ n = 86 ∨ n = 87 ∨ n = 88 ∨ n = 89 ∨ n = 90 ∨ n = 91 ∨ n = 92 ∨ n = 93 ∨ n = 94 ∨ n = 95 ∨ n = 96 ∨ n = 97 ∨ n = 98 ∨ n = 99 ∨ n = 100 ∨ n = 101 ∨ n = 102 ∨ n = 103 ∨ n = 104 ∨ n = 105 ∨ n = 106 ∨ n = 107 ∨ n = 108 ∨ n = 109 ∨ n = 110 ∨ n = 111 ∨ n = 112 ∨ n = 113 ∨ n = 114 ∨ n = 115 ∨ n = 116 ∨ n = 117 ∨ n = 118 ∨ n = 119 ∨ n = 120 ∨ n = 121 ∨ n = 122 ∨ n = 123 ∨ n = 124 ∨ n = 125 ∨ n = 126 ∨ n = 127 ∨ n = 128 ∨ n = 129:=by omega
      rcases hn with rfl | rfl | rfl | rfl | rfl | rfl | rfl | rfl | rfl | rfl | rfl | rfl | rfl | rfl | rfl | rfl | rfl | rfl | rfl | rfl | rfl | rfl | rfl | rfl | rfl | rfl | rfl | rfl | rfl | rfl | rfl | rfl | rfl | rfl | rfl | rfl | rfl | rfl | rfl | rfl | rfl | rfl | rfl | rfl | rfl | rfl | rfl | rfl | rfl | rfl | rfl | rfl | rfl | rfl | rfl | rfl | rfl <;> exact ⟨rfl,rfl,rfl,⟨rfl,rfl,rfl,rfl,rfl,rfl,rfl,rfl,rfl,rfl,rfl,rfl,rfl⟩⟩
theorem deedE_sc {j k : VmK} (h : Sc j k) (t : Nat) (f : VmK → VmL → List Int → Eff) (L : VmL) (hf : ∀ x,ScE (f j L x) (f k L x)) : ScE (deedE t f j L) (deedE t f k L):=by
  obtain ⟨e1,e2,e3,e4⟩:=hf (L.d.drop (L.d.length - t));unfold deedE;rw [e1,e2,e3,h.cd]
  by_cases c1 : L.d.length < t
  · rw [if_pos c1,if_pos c1]; exact ⟨rfl,rfl,rfl,h⟩
  · rw [if_neg c1,if_neg c1]
    by_cases c2 : (f k L (L.d.drop (L.d.length - t))).c = 0
    · rw [if_pos c2,if_pos c2]
      by_cases c3 : k.cd < ((L.d.length - t + (f k L (L.d.drop (L.d.length - t))).o.length : Nat) : Int)
      · rw [if_pos c3,if_pos c3]; exact ⟨rfl,rfl,rfl,h⟩
      · rw [if_neg c3,if_neg c3]; exact ⟨rfl,rfl,rfl,e4⟩
    · rw [if_neg c2,if_neg c2]; exact ⟨rfl,rfl,rfl,h⟩
theorem doE_sc {j k : VmK} (h : Sc j k) (n : Int) (L : VmL) : ScE (doE n j L) (doE n k L):=by
  unfold doE
  by_cases c1 : 23 ≤ n ∧ n ≤ 129
  · rw [if_pos c1,if_pos c1]
    by_cases c2 : n ≤ 38
    · rw [if_pos c2,if_pos c2]
      unfold shufE;rw [h.cd];exact ⟨rfl,rfl,rfl,h⟩
    · rw [if_neg c2,if_neg c2]
      exact deedE_sc h _ _ L fun x => eff_sc h _ L x (by omega)
  · rw [if_neg c1,if_neg c1]; exact ⟨rfl,rfl,rfl,h⟩
theorem MLoc.trans {B : Nat} {i j k : VmK} (h : MLoc B i j) (g : MLoc B j k) : MLoc B i k:=⟨h.p.trans g.p,h.d.trans g.d,h.e.trans g.e,⟨h.r.1.trans g.r.1,h.r.2.trans g.r.2⟩,⟨h.f.1.trans g.f.1,h.f.2.trans g.f.2⟩,⟨h.w.1.trans g.w.1,h.w.2.trans g.w.2⟩,⟨h.h.1.trans g.h.1,h.h.2.trans g.h.2⟩⟩
theorem Ok.sc {j k : VmK} {L : VmL} (s : Sc j k) (h : Ok k L) : Ok j L:=⟨h.m1,h.m2,h.m3,h.d1,h.dr,h.o1,h.q1,h.e1,h.h1,by rw [s.co]; exact h.co0,by rw [s.co]; exact h.co1,by rw [s.cd]; exact h.cd0,by rw [s.cd]; exact h.cd1,by rw [s.here]; exact h.hr0,by rw [s.here]; exact h.hr1,by rw [s.cm]; exact h.cm⟩


theorem pgo_of {m : Nat} (h1 : 23 ≤ m) (h2 : m < 130) (HD : ∀ (g : Nat) (w : World),Sts w (.slice (some ⟨g,0,none⟩) 130 130) primL → Calls Tryz.prog 76 #[.slice (some ⟨g,0,none⟩) 130 130,.int .i64 (m : Int)] w (DeedsOut m w))
    {K K' : VmK} {L L' : VmL} (ok : Ok K L) (hc : (doE (m : Int) K L).c = 0) (hl : (doE (m : Int) K L).L = L') (hk : Sc (doE (m : Int) K L).K K') : PGo (m : Int) K L K' L':=by
  intro j w s ht hv;refine (do_at m h1 h2 HD j L w ht (ok.sc s) hv).mono ?_;rintro e w1 ⟨i,rfl,hi,hs,hl2,bb⟩;obtain ⟨s1,s2,s3,s4⟩:=doE_sc s (m : Int) L;refine ⟨i,by rw [s1,hc],?_,(hs.trans s4).trans hk,.of hl2,bb⟩;rw [s3,hl] at hi;exact hi
theorem shuf_go {m : Nat} (h1 : 23 ≤ m) (h2 : m < 39) {K K' : VmK} {L L' : VmL} (ok : Ok K L) (hc : (doE (m : Int) K L).c = 0) (hl : (doE (m : Int) K L).L = L') (hk : Sc (doE (m : Int) K L).K K') : PGo (m : Int) K L K' L' :=
  pgo_of h1 (by omega) (fun g w hs => deeds_23 m h1 h2 g w hs) ok hc hl hk
theorem two_go {m : Nat} (h1 : 39 ≤ m) (h2 : m < 59) {K K' : VmK} {L L' : VmL} (ok : Ok K L) (hc : (doE (m : Int) K L).c = 0) (hl : (doE (m : Int) K L).L = L') (hk : Sc (doE (m : Int) K L).K K') : PGo (m : Int) K L K' L' :=
  pgo_of (by omega) (by omega) (fun g w hs => deeds_39 m h1 h2 g w hs) ok hc hl hk
structure MemOk (M : PM) : Prop where
  l : M.1.length = 2048
  p : M.2.length ≤ 900
theorem ok_fre {M : PM} (h : MemOk M) {d r : List Int} (hd : d.length ≤ 400) (hc : ∀ x ∈ d,cellR x) : Ok freK (stL9 M d r) :=
  ⟨by show 2048 ≤ M.1.length; rw [h.l]; decide,by show M.1.length ≤ _; rw [h.l]; decide,h.p,hd,hc,Nat.zero_le _,Nat.zero_le _,Nat.zero_le _,Nat.zero_le _,by decide,by decide,by decide,by decide,by decide,by show (1368 : Int) ≤ (M.1.length : Int); rw [h.l]; decide,by show (2048 : Int) = _; rw [h.l]; rfl⟩
theorem p_dup {M : PM} (h : MemOk M) {r : List Int} {l : List Int} {x : Int} (hl : l.length ≤ 30) (hc : ∀ y ∈ l ++ [x],cellR y) : PGo 23 freK (stL9 M (l ++ [x]) r) freK (stL9 M (l ++ [x,x]) r):=by
  have e : doE 23 freK (stL9 M (l ++ [x]) r) = ⟨0,[],freK,stL9 M (l ++ [x,x]) r⟩:=by
    show shufE (nmP 23) freK (stL9 M (l ++ [x]) r) = _;rw [show nmP 23 = [68,85,80] from by decide +kernel];have hr : resF (kindF [68,85,80]) (l ++ [x]) = .out (l ++ [x,x]):=by
      show (if (l ++ [x]).length < 1 then Res.under else .out (leftL (l ++ [x]) ((l ++ [x]).length - 1) [0,0])) = _;rw [if_neg (by simp)];simp [leftL]
    unfold shufE;rw [show (stL9 M (l ++ [x]) r).d = l ++ [x] from rfl,hr];show (⟨if (32 : Int) < _ then -3 else 0,[],freK,{ stL9 M (l ++ [x]) r with d:=if (32 : Int) < _ then _ else _ }⟩ : Eff) = _;rw [if_neg (by simp; omega),if_neg (by simp; omega)]
  exact shuf_go (m:=23) (by omega) (by omega) (ok_fre h (by simp; omega) hc) (by rw [show ((23 : Nat) : Int) = 23 from rfl,e]) (by rw [show ((23 : Nat) : Int) = 23 from rfl,e]) (by rw [show ((23 : Nat) : Int) = 23 from rfl,e]; exact Sc.refl _)
theorem p_five {M : PM} (h : MemOk M) {r : List Int} : PGo 41 freK (stL9 M [5,5] r) freK (stL9 M [25] r) :=
  two_go (m:=41) (by omega) (by omega) (ok_fre h (by decide) (by intro x hx; simp at hx; unfold cellR; omega)) (by kernel_rfl) (by kernel_rfl) (by exact Sc.refl _)
end Go.Proofs.YtcmldhjicjmmgaaGreatDoor
