/- Part 11. -/
import Derived.Shelf.SlicesQ.Equal
import Derived.Laws.StructEq
import Derived.ArgAppend
import Derived.Test.YtcmldhjicjmmgaaGreatDoorXlAJ
import Derived.Shelf.SlicesE.Equal
set_option linter.unusedVariables false
set_option linter.unusedSimpArgs false
set_option maxRecDepth 100000
set_option maxHeartbeats 4000000

namespace Go.Proofs.YtcmldhjicjmmgaaGreatDoor
open Go.RowKit


theorem WOwns.block {w : World} {base n : Nat} {v : Value} {l : List Wr} (h : WOwns w base v n l) (hn : 0 < n) : ∃ g cap,v = .slice (some ⟨g,0,none⟩) n cap ∧ base ≤ g ∧ g < w.heap.size ∧ ∀ k,k < n → (∃ x,w.cell? ⟨g,k * 3 + 2,none⟩ = some x) ∧ w.frozen? ⟨g,k * 3 + 2,none⟩ = false:=by
  rcases h.2 with ⟨_,h0⟩ | ⟨g,cap,cur,e,hb,hg,hnc,hcm,hcs,ht⟩
  · omega
  · refine ⟨g,cap,e,hb,(Array.getElem?_eq_some_iff.1 hg).1,fun k hk => ?_⟩
    have hks : k * 3 + 2 < cur.size:=by omega
    refine ⟨⟨cur[k * 3 + 2],by simp [World.cell?,hg,hks]⟩,by simp [World.frozen?,hg]⟩


def Tn (w : World) (p q r : Addr) : Prop:=w.cell? p = some (.int .u8 97) ∧ w.cell? q = some (.int .u8 122) ∧ w.cell? r = some (.int .u8 65)
def TnB (w : World) (p q r : Nat) : Prop:=Tn w ⟨p,0,none⟩ ⟨q,0,none⟩ ⟨r,0,none⟩ ∧ p < w.heap.size ∧ q < w.heap.size ∧ r < w.heap.size
theorem TnB.keep {w w' : World} {p q r : Nat} (h : TnB w p q r) (b : Below w.heap.size w w') : TnB w' p q r:=by
  obtain ⟨⟨h1,h2,h3⟩,h4,h5,h6⟩:=h;have hz:=b.size;exact ⟨⟨(b.cell (p:=⟨p,0,none⟩) h4).trans h1,(b.cell (p:=⟨q,0,none⟩) h5).trans h2,(b.cell (p:=⟨r,0,none⟩) h6).trans h3⟩,by omega,by omega,by omega⟩
def Rw (w : World) (g C : Nat) (l : List UInt8) : Prop:=∃ X : Array Value,w.heap[g]? = some (.cells ((u8s l).toArray ++ X) 5 (C,C + 1)) ∧ l.length ≤ C ∧ C ≤ maxLen
theorem Rw.lt {w : World} {g C : Nat} {l : List UInt8} (h : Rw w g C l) : g < w.heap.size:=by
  obtain ⟨X,h1,_⟩:=h;exact (Array.getElem?_eq_some_iff.1 h1).1
theorem Rw.use {w : World} {g C : Nat} {l : List UInt8} (h : Rw w g C l) {k : Nat} {c : UInt8} (hk : l[k]? = some c) : w.cell? ⟨g,k,none⟩ = some (.int .u8 (c.toNat : Int)) ∧ w.frozen? ⟨g,k,none⟩ = false:=by
  obtain ⟨X,h1,h2,h3⟩:=h;have hkl:=(List.getElem?_eq_some_iff.1 hk).1;have e : ((u8s l).toArray ++ X)[k]? = some (.int .u8 (c.toNat : Int)):=by
    rw [Array.getElem?_append_left (by simpa [u8s] using hkl)];simp [u8s,hk]
  refine ⟨by simp [World.cell?,h1,e],?_⟩;simp [World.frozen?,h1];omega
theorem Rw.keep {w w' : World} {g C : Nat} {l : List UInt8} (h : Rw w g C l) (b : Below w.heap.size w w') : Rw w' g C l:=by
  have hl:=h.lt;obtain ⟨X,h1,h2⟩:=h;exact ⟨X,(b.block g hl).trans h1,h2⟩
theorem Rw.set {w : World} {g C : Nat} {l : List UInt8} (h : Rw w g C l) {k : Nat} (hk : k < l.length) (c : UInt8) : Rw (w.setCell ⟨g,k,none⟩ (.int .u8 (c.toNat : Int))) g C (l.set k c):=by
  obtain ⟨X,h1,h2,h3⟩:=h;obtain ⟨hlt,hc⟩:=Array.getElem?_eq_some_iff.1 h1;refine ⟨X,?_,by rw [List.length_set]; exact h2,h3⟩;show (w.heap.modify g _)[g]? = _;rw [Array.getElem?_eq_getElem (by rw [Array.size_modify]; exact hlt),Array.getElem_modify_self,hc];simp [u8s,List.set_append_left,hk,List.map_set]
theorem Rw.byt {w : World} {g C : Nat} {l : List UInt8} (h : Rw w g C l) : Byt w (.slice (some ⟨g,0,none⟩) l.length C) l:=by
  have hlt:=h.lt;refine ⟨_,_,rfl,h.choose_spec.2.1,h.choose_spec.2.2,.inr ⟨g,0,rfl,hlt,fun j v hv => ?_⟩⟩;unfold u8s at hv;rw [List.getElem?_map] at hv;cases hj : l[j]? with
  | none => rw [hj] at hv; simp at hv
  | some c =>
    rw [hj] at hv;have : v = .int .u8 (c.toNat : Int):=by simpa using hv.symm
    rw [this,Nat.zero_add];exact (h.use hj).1


abbrev wv (q : Wr) : Value:=.agg #[.string (strB q.nm),.int .i64 q.xt,.int .i64 q.fl]
end Go.Proofs.YtcmldhjicjmmgaaGreatDoor

namespace Go.Proofs
open Go.Shelf Go.Lib
def Tryz.weq_ren : Go.Shelf.Ren:=⟨fun | 8 => 71 | n => n,fun | 0 => 0 | 3 => 3 | 4 => 4 | 22 => 31 | 24 => 81 | n => n,fun | n => n⟩
theorem Tryz.weq_lays : Go.Proofs.SlLaysQ.n8 Tryz.prog Tryz.weq_ren:={
  mixed:=by kernel_rfl
  f8 := ⟨"slices.Equal[[]detent/api.Word,detent/api.Word]", by decide, Tryz.func71.trans (congrArg some (by kernel_rfl))⟩
  t0:=Tryz.underlying0
  a0:=Tryz.isAgg0
  z0:=Tryz.sizeOf0
  v0:=Tryz.zeroValue0
  t3:=Tryz.underlying3
  a3:=Tryz.isAgg3
  z3:=Tryz.sizeOf3
  v3:=Tryz.zeroValue3
  t4:=Tryz.underlying4
  a4:=Tryz.isAgg4
  z4:=Tryz.sizeOf4
  v4:=Tryz.zeroValue4
  t22:=Tryz.underlying31
  a22:=Tryz.isAgg31
  z22:=Tryz.sizeOf31
  v22:=Tryz.zeroValue31 }
end Go.Proofs
namespace Go.Proofs.YtcmldhjicjmmgaaGreatDoor
open Go.RowKit Go.Lib Go.Shelf


instance : Inhabited Wr:=⟨⟨[],0,0⟩⟩
theorem wneq : NeqAt Tryz.prog 81 (fun q : Wr => .agg (wcell q).toArray) (fun x y => decide (x = y)):=by
  refine ⟨fun x y w => ?_,GuardAt.agg _ (by kernel_rfl)⟩;have u3:=Tryz.underlying3;have a3:=Tryz.isAgg3;have z3:=Tryz.sizeOf3;have u9:=Tryz.underlying9;have a9:=Tryz.isAgg9;have z9:=Tryz.sizeOf9;have hS : Tryz.prog.underlying 81 = some (.struct (Tryz.prog.fieldsOf 81)):=by kernel_rfl
  have hp : Tryz.prog.stoodInHeld 81 = false:=by kernel_rfl
  simp only [wcell];rw [run_neq_struct,show (10000 : Nat) = 9999 + 1 from rfl,run_equalIn_agg w 9999 81 _ _ hS hp];simp only [Program.fieldsOf,Tryz.underlying81]
  by_cases h1 : x.nm = y.nm
  · rw [h1]
    by_cases h2 : x.xt = y.xt <;> by_cases h3 : x.fl = y.fl
    · have e : x = y:=by cases x; cases y; simp_all
      subst e;go_simp
    · have e : ¬ x = y:=fun e => h3 (by rw [e])
      go_simp
    · have e : ¬ x = y:=fun e => h2 (by rw [e])
      go_simp
    · have e : ¬ x = y:=fun e => h2 (by rw [e])
      go_simp
  · have e : ¬ x = y:=fun e => h1 (by rw [e])
    have hne:=str_ne (a:=strB x.nm) (b:=strB y.nm) (fun e => h1 (strB_inj e));go_simp
theorem wcell_len (q : Wr) : (wcell q).length = 3:=rfl
theorem wds_elem (l : List Wr) (j : Nat) (hj : j < l.length) (i : Nat) (v : Value) (h : (wcell l[j]!)[i]? = some v) : (wds l)[j * 3 + i]? = some v:=by
  rw [getElem!_pos l j hj] at h;obtain ⟨h1,h2,h3⟩:=wds_at hj;have e : j * 3 = 3 * j:=by omega
  rw [e]
  match i,h with
  | 0,h => rw [Nat.add_zero,h1]; exact h
  | 1,h => rw [h2]; exact h
  | 2,h => rw [h3]; exact h
  | i + 3,h => simp [wcell] at h
theorem allEq_words (a b : List Wr) : Lib.allEq (fun x y : Wr => decide (x = y)) a b = decide (a = b):=by
  induction a generalizing b with
  | nil => cases b <;> simp [Lib.allEq]
  | cons x a ih =>
    cases b with
    | nil => simp [Lib.allEq]
    | cons y b => simp [Lib.allEq,ih]
theorem wequal_some (g o n c g' o' n' c' : Nat) (a b : List Wr) (w : World) (h : Wds w (.slice (some ⟨g,o,none⟩) n c) a) (h' : Wds w (.slice (some ⟨g',o',none⟩) n' c') b) (ha : n ≤ 1000000) (hb : n' ≤ 1000000) :
    Calls Tryz.prog 71 #[.slice (some ⟨g,o,none⟩) n c,.slice (some ⟨g',o',none⟩) n' c'] w fun e w' => e = .returned (.bool (decide (a = b))) ∧ Below w.heap.size w w':=by
  have ea:=h.len;have eb:=h'.len;subst ea eb;have hcell : ∀ {g o : Nat} {l : List Wr} {c : Nat},Wds w (.slice (some ⟨g,o,none⟩) l.length c) l → ∀ j,j < l.length → ∀ i v,(wcell l[j]!)[i]? = some v → w.cell? ⟨g,o + j * 3 + i,none⟩ = some v:=by
    intro g o l c h j hj i v hv;have hx:=wds_elem l j hj i v hv
    rcases h.lies with hl | ⟨g2,o2,e,_,hc⟩
    · rw [hl] at hx; simp at hx
    · injection e with e
      injection e with e1 e2
      subst e1 e2;have:=hc _ _ hx
      rwa [← Nat.add_assoc] at this
  have hz:=AnyQ.slices_Equal Tryz.weq_lays 3 Tryz.isAgg81 Tryz.sizeOf81 wcell wcell_len _ wneq g o a.length c g' o' b.length c' a b w (Nat.le_refl _) (Nat.le_refl _) (by omega) (by omega) (hcell h) (hcell h');refine Calls.mono hz ?_;rintro e w1 ⟨he,q,hw⟩;rw [List.take_length,List.take_length,allEq_words] at he;exact ⟨he,by rw [hw]; exact drewN_belowW w q⟩
open Go.RowKit


theorem wequal_any (A A' : Option Addr) (n c n' c' : Nat) (a b : List Wr) (w : World) (h : Wds w (.slice A n c) a) (h' : Wds w (.slice A' n' c') b) (ha : a.length ≤ 100000) :
    Calls Tryz.prog 71 #[.slice A n c,.slice A' n' c'] w fun e w' => e = .returned (.bool (dSame a b)) ∧ Below w.heap.size w w':=by
  have ea:=h.len;have eb:=h'.len;subst ea eb
  by_cases hl : a.length = b.length
  · by_cases h0 : a.length = 0
    · have e1 : a = []:=List.eq_nil_of_length_eq_zero h0
      have e2 : b = []:=List.eq_nil_of_length_eq_zero (by omega);subst e1 e2;have H : Hid (dSame [] [] = true):=by show _ = _; rfl
      rw [H.out];clear h h' hl h0 ha;go_enter Tryz.func71,Tryz.ntmps71;(go_wp2_with fail);refine wp_loop_rounds 1 ?_
      iterate 1 (rw [rounds_succ]; go_wp2_with fail)
      go_ret;exact ⟨rfl,Below.refl _ _⟩
    · obtain ⟨g,o,hA,_⟩:=wds_cell h (k:=0) (by omega)
      obtain ⟨g',o',hA',_⟩:=wds_cell h' (k:=0) (by omega);subst hA hA';exact wequal_some g o _ c g' o' _ c' a b w h h' (by omega) (by omega)
  · have H : Hid (dSame a b = false):=by show _ = _; unfold dSame; simp; intro e; rw [e] at hl; exact hl rfl
    rw [H.out];have hl' : ((a.length : Int) != (b.length : Int)) = true:=by simp; omega
    have hl2 : ((a.length : Int) == (b.length : Int)) = false:=by simp; omega
    have hl3 : ¬ (a.length : Int) = (b.length : Int):=by omega
    clear h h' hl ha;go_enter Tryz.func71,Tryz.ntmps71;(go_wp2_with fail);go_ret;exact ⟨rfl,Below.refl _ _⟩
theorem dsame_any (A A' : Option Addr) (n c n' c' : Nat) (a b : List Wr) (w : World) (h : Wds w (.slice A n c) a) (h' : Wds w (.slice A' n' c') b) (ha : a.length ≤ 100000) :
    Calls Tryz.prog 48 #[.slice A n c,.slice A' n' c'] w fun e w' => e = .returned (.bool (dSame a b)) ∧ Below w.heap.size w w':=by
  have HC:=zqh (wequal_any A A' n c n' c' a b w h h' ha);clear h h' ha;go_enter Tryz.func48,Tryz.ntmps48;(go_wp2_with fail);refine HC.out.mono ?_;rintro e1 w5 ⟨rfl,b5⟩;have HB:=zqh b5;clear b5;(go_wp2_with fail);go_ret;exact ⟨rfl,HB.out⟩


theorem VBox.cell_is {w : World} {b : Nat} {k : VmK} (h : VBox w b k) {i : Nat} {v : Value} (hc : w.cell? ⟨b,i,none⟩ = some v) : v ∈ vmC k:=by
  unfold VBox at h;unfold World.cell? at hc;rw [h] at hc;exact Array.mem_of_getElem? hc
theorem VBox.no_u8 {w : World} {b : Nat} {k : VmK} (h : VBox w b k) {i : Nat} {x : Int} : w.cell? ⟨b,i,none⟩ ≠ some (.int .u8 x):=by
  intro hc;have:=h.cell_is hc;simp at this
theorem VBox.no_str {w : World} {b : Nat} {k : VmK} (h : VBox w b k) {i : Nat} {x : ByteArray} : w.cell? ⟨b,i,none⟩ ≠ some (.string x):=by
  intro hc;have:=h.cell_is hc;simp at this
theorem lies_row {w : World} {b : Nat} {A : Option Addr} {xs : List Value} (h : Lies w A xs) (cs : Array Value) (hb : ∀ i v,xs[0]? = some v → w.cell? ⟨b,i,none⟩ ≠ some v) : Lies (w.setRow b cs) A xs:=by
  rcases h with h | ⟨g,o,e,hg,hc⟩
  · exact .inl h
  · cases hx : xs with
    | nil => exact .inl rfl
    | cons y ys =>
      right;have h0 : xs[0]? = some y:=by rw [hx]; rfl
      have hne : g ≠ b:=by
        rintro rfl;exact hb _ _ h0 (hc 0 y h0)
      refine ⟨g,o,e,by rw [size_setRow]; exact hg,fun j v hv => ?_⟩;have:=hc j v (by rw [hx]; exact hv);unfold World.cell? at this ⊢;rw [setRow_other _ _ _ _ hne];exact this
theorem Byt.vrow {w : World} {b : Nat} {k : VmK} {v : Value} {l : List UInt8} (h : Byt w v l) (hb : VBox w b k) (cs : Array Value) : Byt (w.setRow b cs) v l:=by
  obtain ⟨A,c,e,h1,h2,h3⟩:=h;refine ⟨A,c,e,h1,h2,lies_row h3 cs fun i v hv => ?_⟩;cases l with
  | nil => simp [u8s] at hv
  | cons x xs =>
    simp [u8s] at hv;rw [← hv];exact hb.no_u8
theorem Wds.vrow {w : World} {b : Nat} {k : VmK} {v : Value} {l : List Wr} (h : Wds w v l) (hb : VBox w b k) (cs : Array Value) : Wds (w.setRow b cs) v l:=by
  obtain ⟨A,c,e,h1,h2,h3⟩:=h;refine ⟨A,c,e,h1,h2,lies_row h3 cs fun i v hv => ?_⟩;cases l with
  | nil => simp [wds] at hv
  | cons x xs =>
    simp [wds,wcell] at hv;rw [← hv];exact hb.no_str


theorem bn_row {L j : Nat} (hj : j < L) : bn (rowN L 167,[]) j = (byteN 167 j).toNat:=by
  unfold bn;rw [List.getD_eq_getElem?_getD,rowN_at hj];rfl
theorem cell_ok {L p : Nat} (h8 : p % 8 = 0) (hp : p + 8 ≤ L) : cellC L (p : Int) = 0:=by
  have h1 : okB L (p : Int) 8 = true:=by unfold okB; rw [decide_eq_true_eq]; omega
  unfold cellC;rw [if_pos h1,if_pos (by omega)]
theorem fetch_row {L p : Nat} (h8 : p % 8 = 0) (hp : p + 8 ≤ L) : fetchF (rowN L 167,[]) (p : Int) = wrap64 (eight (byteN 167 p).toNat (byteN 167 (p + 1)).toNat (byteN 167 (p + 2)).toNat (byteN 167 (p + 3)).toNat (byteN 167 (p + 4)).toNat (byteN 167 (p + 5)).toNat (byteN 167 (p + 6)).toNat (byteN 167 (p + 7)).toNat : Int):=by
  unfold fetchF;rw [show ((rowN L 167,([] : List Pt)) : PM).1.length = L from rowN_len L 167,if_pos (cell_ok h8 hp),Int.toNat_natCast];rw [bn_row (by omega),bn_row (by omega),bn_row (by omega),bn_row (by omega),bn_row (by omega),bn_row (by omega),bn_row (by omega),bn_row (by omega)]
theorem field_bytes : ∀ i,i < 167 → wrap64 (eight (byteN 167 (32 + 8 * i)).toNat (byteN 167 (32 + 8 * i + 1)).toNat (byteN 167 (32 + 8 * i + 2)).toNat (byteN 167 (32 + 8 * i + 3)).toNat (byteN 167 (32 + 8 * i + 4)).toNat (byteN 167 (32 + 8 * i + 5)).toNat (byteN 167 (32 + 8 * i + 6)).toNat (byteN 167 (32 + 8 * i + 7)).toNat : Int) = ((numN i : Nat) : Int):=by decide +kernel
theorem fetch_num {L i : Nat} (hL : 1368 ≤ L) (hi : i < 167) : fetchF (rowN L 167,[]) ((32 + 8 * i : Nat) : Int) = ((numN i : Nat) : Int):=by
  rw [fetch_row (by omega) (by omega)];exact field_bytes i hi
end Go.Proofs.YtcmldhjicjmmgaaGreatDoor

namespace Go.Proofs
open Go.Shelf Go.Lib
def Tryz.ieq_ren : Go.Shelf.Ren:=⟨fun | 33 => 50 | n => n,fun | 0 => 0 | 3 => 3 | 4 => 4 | 22 => 22 | 23 => 3 | n => n,fun n => n⟩
theorem Tryz.ieq_lays : Go.Proofs.SlLaysE.n33 Tryz.prog Tryz.ieq_ren:={
  mixed:=by kernel_rfl
  f33 := ⟨"slices.Equal[[]int,int]", by decide, Tryz.func50.trans (congrArg some (by kernel_rfl))⟩
  t0:=Tryz.underlying0
  a0:=Tryz.isAgg0
  z0:=Tryz.sizeOf0
  v0:=Tryz.zeroValue0
  t3:=Tryz.underlying3
  a3:=Tryz.isAgg3
  z3:=Tryz.sizeOf3
  v3:=Tryz.zeroValue3
  t4:=Tryz.underlying4
  a4:=Tryz.isAgg4
  z4:=Tryz.sizeOf4
  v4:=Tryz.zeroValue4
  t22:=Tryz.underlying22
  a22:=Tryz.isAgg22
  z22:=Tryz.sizeOf22
  v22:=Tryz.zeroValue22
  a23:=Tryz.isAgg3
  z23:=Tryz.sizeOf3 }
def Tryz.fmeq_ren : Go.Shelf.Ren:=⟨fun | 8 => 51 | n => n,fun | 0 => 0 | 3 => 3 | 4 => 4 | 22 => 30 | 24 => 102 | n => n,fun n => n⟩
theorem Tryz.fmeq_lays : Go.Proofs.SlLaysQ.n8 Tryz.prog Tryz.fmeq_ren:={
  mixed:=by kernel_rfl
  f8 := ⟨"slices.Equal[[]detent/api.Frame,detent/api.Frame]", by decide, Tryz.func51.trans (congrArg some (by kernel_rfl))⟩
  t0:=Tryz.underlying0
  a0:=Tryz.isAgg0
  z0:=Tryz.sizeOf0
  v0:=Tryz.zeroValue0
  t3:=Tryz.underlying3
  a3:=Tryz.isAgg3
  z3:=Tryz.sizeOf3
  v3:=Tryz.zeroValue3
  t4:=Tryz.underlying4
  a4:=Tryz.isAgg4
  z4:=Tryz.sizeOf4
  v4:=Tryz.zeroValue4
  t22:=Tryz.underlying30
  a22:=Tryz.isAgg30
  z22:=Tryz.sizeOf30
  v22:=Tryz.zeroValue30 }
def Tryz.rqeq_ren : Go.Shelf.Ren:=⟨fun | 8 => 53 | n => n,fun | 0 => 0 | 3 => 3 | 4 => 4 | 22 => 34 | 24 => 119 | n => n,fun n => n⟩
theorem Tryz.rqeq_lays : Go.Proofs.SlLaysQ.n8 Tryz.prog Tryz.rqeq_ren:={
  mixed:=by kernel_rfl
  f8 := ⟨"slices.Equal[[]detent/api.Req,detent/api.Req]", by decide, Tryz.func53.trans (congrArg some (by kernel_rfl))⟩
  t0:=Tryz.underlying0
  a0:=Tryz.isAgg0
  z0:=Tryz.sizeOf0
  v0:=Tryz.zeroValue0
  t3:=Tryz.underlying3
  a3:=Tryz.isAgg3
  z3:=Tryz.sizeOf3
  v3:=Tryz.zeroValue3
  t4:=Tryz.underlying4
  a4:=Tryz.isAgg4
  z4:=Tryz.sizeOf4
  v4:=Tryz.zeroValue4
  t22:=Tryz.underlying34
  a22:=Tryz.isAgg34
  z22:=Tryz.sizeOf34
  v22:=Tryz.zeroValue34 }
def Tryz.hneq_ren : Go.Shelf.Ren:=⟨fun | 8 => 54 | n => n,fun | 0 => 0 | 3 => 3 | 4 => 4 | 22 => 35 | 24 => 122 | n => n,fun n => n⟩
theorem Tryz.hneq_lays : Go.Proofs.SlLaysQ.n8 Tryz.prog Tryz.hneq_ren:={
  mixed:=by kernel_rfl
  f8 := ⟨"slices.Equal[[]detent/api.Hand,detent/api.Hand]", by decide, Tryz.func54.trans (congrArg some (by kernel_rfl))⟩
  t0:=Tryz.underlying0
  a0:=Tryz.isAgg0
  z0:=Tryz.sizeOf0
  v0:=Tryz.zeroValue0
  t3:=Tryz.underlying3
  a3:=Tryz.isAgg3
  z3:=Tryz.sizeOf3
  v3:=Tryz.zeroValue3
  t4:=Tryz.underlying4
  a4:=Tryz.isAgg4
  z4:=Tryz.sizeOf4
  v4:=Tryz.zeroValue4
  t22:=Tryz.underlying35
  a22:=Tryz.isAgg35
  z22:=Tryz.sizeOf35
  v22:=Tryz.zeroValue35 }
end Go.Proofs
namespace Go.Proofs.YtcmldhjicjmmgaaGreatDoor
open Go.RowKit Go.Lib Go.Shelf


theorem allEq_dec {α : Type} [DecidableEq α] (a b : List α) : Lib.allEq (fun x y : α => decide (x = y)) a b = decide (a = b):=by
  induction a generalizing b with
  | nil => cases b <;> simp [Lib.allEq]
  | cons x a ih =>
    cases b with
    | nil => simp [Lib.allEq]
    | cons y b => simp [Lib.allEq,ih]
theorem neq_intD (T : TypeId) : NeqAt Tryz.prog T (Value.int .i64) (fun x y => decide (x = y)):=⟨fun x y w => by rw [(NeqAt.int Tryz.prog T .i64).1 x y w]; by_cases h : x = y <;> simp [h],.int Tryz.prog T .i64⟩
theorem drewN_below3 (w : World) (n : Nat) : Below w.heap.size w (w.drewN n):=⟨rfl,rfl,rfl,Nat.le_refl _,fun _ _ => rfl⟩
theorem iequal_any (A A' : Option Addr) (n c n' c' : Nat) (a b : List Int) (w : World) (h : Row w A n c a) (h' : Row w A' n' c' b) (ha : n ≤ 1000000) :
    Calls Tryz.prog 50 #[.slice A n c,.slice A' n' c'] w fun e w' => e = .returned (.bool (sameB a b)) ∧ Below w.heap.size w w':=by
  have ea : a.length = n:=h.1;have eb : b.length = n':=h'.1;subst ea eb
  by_cases hl : a.length = b.length
  · by_cases h0 : a.length = 0
    · have e1 : a = []:=List.eq_nil_of_length_eq_zero h0
      have e2 : b = []:=List.eq_nil_of_length_eq_zero (by omega);subst e1 e2;have H : Hid (sameB ([] : List Int) [] = true):=by show _ = _; unfold sameB; simp
      rw [H.out];clear h h' hl h0 ha;go_enter Tryz.func50,Tryz.ntmps50;(go_wp2_with fail);refine wp_loop_rounds 1 ?_
      iterate 1 (rw [rounds_succ]; go_wp2_with fail)
      go_ret;exact ⟨rfl,Below.refl _ _⟩
    · obtain ⟨g,o,hA,_,hc⟩:=h.cells (by omega)
      obtain ⟨g',o',hA',_,hc'⟩:=h'.cells (by omega);subst hA hA';have hz:=AnyE.slices_Equal Tryz.ieq_lays (Value.int .i64) (fun x y => decide (x = y)) (neq_intD 3) g o a.length c g' o' b.length c' a b w (Nat.le_refl _) (Nat.le_refl _) (by omega) (by omega) (fun j hj => by rw [hc j hj,List.getD_eq_getElem?_getD,List.getElem?_eq_getElem hj,getElem!_pos a j hj]; rfl) (fun j hj => by rw [hc' j hj,List.getD_eq_getElem?_getD,List.getElem?_eq_getElem hj,getElem!_pos b j hj]; rfl);refine Calls.mono hz ?_;rintro e w1 ⟨he,q,hw⟩;rw [List.take_length,List.take_length,allEq_dec] at he;exact ⟨he,by rw [hw]; exact drewN_below3 w q⟩
  · have H : Hid (sameB a b = false):=by show _ = _; unfold sameB; simp; intro e; rw [e] at hl; exact hl rfl
    rw [H.out];have hl' : ((a.length : Int) != (b.length : Int)) = true:=by simp; omega
    have hl2 : ((a.length : Int) == (b.length : Int)) = false:=by simp; omega
    have hl3 : ¬ (a.length : Int) = (b.length : Int):=by omega
    clear h h' hl ha;go_enter Tryz.func50,Tryz.ntmps50;(go_wp2_with fail);go_ret;exact ⟨rfl,Below.refl _ _⟩
instance : Inhabited Fm:=⟨⟨0,0,0⟩⟩
theorem fmneq : NeqAt Tryz.prog 102 (fun q : Fm => .agg (fmE q).toArray) (fun x y => decide (x = y)):=by
  refine ⟨fun x y w => ?_,GuardAt.agg _ (by kernel_rfl)⟩;have u3:=Tryz.underlying3;have a3:=Tryz.isAgg3;have z3:=Tryz.sizeOf3;have u4:=Tryz.underlying4;have a4:=Tryz.isAgg4;have z4:=Tryz.sizeOf4;have hS : Tryz.prog.underlying 102 = some (.struct (Tryz.prog.fieldsOf 102)):=by kernel_rfl
  have hp : Tryz.prog.stoodInHeld 102 = false:=by kernel_rfl
  simp only [fmE];rw [run_neq_struct,show (10000 : Nat) = 9999 + 1 from rfl,run_equalIn_agg w 9999 102 _ _ hS hp];simp only [Program.fieldsOf,Tryz.underlying102]
  by_cases h0 : x.d = y.d
  · skip
    by_cases h1 : x.r = y.r
    · skip
      by_cases h2 : x.ip = y.ip
      · skip
        have e : x = y:=by cases x; cases y; simp_all
        subst e;go_simp
      · have e : ¬ x = y:=fun e => h2 (by rw [e])
        go_simp
    · have e : ¬ x = y:=fun e => h1 (by rw [e])
      go_simp
  · have e : ¬ x = y:=fun e => h0 (by rw [e])
    go_simp
theorem fmE_len (q : Fm) : (fmE q).length = 3:=rfl
theorem fmequal_any (A A' : Option Addr) (n c n' c' : Nat) (a b : List Fm) (w : World) (h : Fms w (.slice A n c) a) (h' : Fms w (.slice A' n' c') b) (ha : n ≤ 1000000) :
    Calls Tryz.prog 51 #[.slice A n c,.slice A' n' c'] w fun e w' => e = .returned (.bool (fmSame a b)) ∧ Below w.heap.size w w':=by
  have ea : a.length = n:=h.len;have eb : b.length = n':=h'.len;subst ea eb
  by_cases hl : a.length = b.length
  · by_cases h0 : a.length = 0
    · have e1 : a = []:=List.eq_nil_of_length_eq_zero h0
      have e2 : b = []:=List.eq_nil_of_length_eq_zero (by omega);subst e1 e2;have H : Hid (fmSame ([] : List Fm) [] = true):=by show _ = _; unfold fmSame; simp
      rw [H.out];clear h h' hl h0 ha;go_enter Tryz.func51,Tryz.ntmps51;(go_wp2_with fail);refine wp_loop_rounds 1 ?_
      iterate 1 (rw [rounds_succ]; go_wp2_with fail)
      go_ret;exact ⟨rfl,Below.refl _ _⟩
    · obtain ⟨g,o,hA,_,hc⟩:=Rws.cell (s:=3) (fun _ => rfl) (by decide) h (k:=0) (by omega)
      obtain ⟨g',o',hA',_,hc'⟩:=Rws.cell (s:=3) (fun _ => rfl) (by decide) h' (k:=0) (by omega);subst hA hA';have hcell : ∀ {g o : Nat} {l : List Fm} {c : Nat},Fms w (.slice (some ⟨g,o,none⟩) l.length c) l → ∀ j,j < l.length → ∀ i v,(fmE l[j]!)[i]? = some v → w.cell? ⟨g,o + j * 3 + i,none⟩ = some v:=by
        intro g o l c h j hj i v hv;obtain ⟨g2,o2,e,_,hc⟩:=Rws.cell (s:=3) (fun _ => rfl) (by decide) h hj;injection e with e
        injection e with e1 e2
        subst e1 e2;rw [getElem!_pos l j hj] at hv;have hi : i < 3:=by have:=(List.getElem?_eq_some_iff.1 hv).1; simpa [fmE] using this
        rw [Nat.add_assoc];exact hc i v hi hv
      have hz:=AnyQ.slices_Equal Tryz.fmeq_lays 3 Tryz.isAgg102 Tryz.sizeOf102 fmE fmE_len _ fmneq g o a.length c g' o' b.length c' a b w (Nat.le_refl _) (Nat.le_refl _) (by omega) (by omega) (hcell h) (hcell h');refine Calls.mono hz ?_;rintro e w1 ⟨he,q,hw⟩;rw [List.take_length,List.take_length,allEq_dec] at he;exact ⟨he,by rw [hw]; exact drewN_below3 w q⟩
  · have H : Hid (fmSame a b = false):=by show _ = _; unfold fmSame; simp; intro e; rw [e] at hl; exact hl rfl
    rw [H.out];have hl' : ((a.length : Int) != (b.length : Int)) = true:=by simp; omega
    have hl2 : ((a.length : Int) == (b.length : Int)) = false:=by simp; omega
    have hl3 : ¬ (a.length : Int) = (b.length : Int):=by omega
    clear h h' hl ha;go_enter Tryz.func51,Tryz.ntmps51;(go_wp2_with fail);go_ret;exact ⟨rfl,Below.refl _ _⟩
instance : Inhabited Rq:=⟨⟨0,0,0,0,0,0⟩⟩
theorem rqneq : NeqAt Tryz.prog 119 (fun q : Rq => .agg (rqE q).toArray) (fun x y => decide (x = y)):=by
  refine ⟨fun x y w => ?_,GuardAt.agg _ (by kernel_rfl)⟩;have u3:=Tryz.underlying3;have a3:=Tryz.isAgg3;have z3:=Tryz.sizeOf3;have u4:=Tryz.underlying4;have a4:=Tryz.isAgg4;have z4:=Tryz.sizeOf4;have hS : Tryz.prog.underlying 119 = some (.struct (Tryz.prog.fieldsOf 119)):=by kernel_rfl
  have hp : Tryz.prog.stoodInHeld 119 = false:=by kernel_rfl
  simp only [rqE];rw [run_neq_struct,show (10000 : Nat) = 9999 + 1 from rfl,run_equalIn_agg w 9999 119 _ _ hS hp];simp only [Program.fieldsOf,Tryz.underlying119]
  by_cases h0 : x.kind = y.kind
  · skip
    by_cases h1 : x.arg = y.arg
    · skip
      by_cases h2 : x.hand = y.hand
      · skip
        by_cases h3 : x.rank = y.rank
        · skip
          by_cases h4 : x.delay = y.delay
          · skip
            by_cases h5 : x.id = y.id
            · skip
              have e : x = y:=by cases x; cases y; simp_all
              subst e;go_simp
            · have e : ¬ x = y:=fun e => h5 (by rw [e])
              go_simp
          · have e : ¬ x = y:=fun e => h4 (by rw [e])
            go_simp
        · have e : ¬ x = y:=fun e => h3 (by rw [e])
          go_simp
      · have e : ¬ x = y:=fun e => h2 (by rw [e])
        go_simp
    · have e : ¬ x = y:=fun e => h1 (by rw [e])
      go_simp
  · have e : ¬ x = y:=fun e => h0 (by rw [e])
    go_simp
theorem rqE_len (q : Rq) : (rqE q).length = 6:=rfl
theorem rqequal_any (A A' : Option Addr) (n c n' c' : Nat) (a b : List Rq) (w : World) (h : Rqs w (.slice A n c) a) (h' : Rqs w (.slice A' n' c') b) (ha : n ≤ 1000000) :
    Calls Tryz.prog 53 #[.slice A n c,.slice A' n' c'] w fun e w' => e = .returned (.bool (rqSame a b)) ∧ Below w.heap.size w w':=by
  have ea : a.length = n:=h.len;have eb : b.length = n':=h'.len;subst ea eb
  by_cases hl : a.length = b.length
  · by_cases h0 : a.length = 0
    · have e1 : a = []:=List.eq_nil_of_length_eq_zero h0
      have e2 : b = []:=List.eq_nil_of_length_eq_zero (by omega);subst e1 e2;have H : Hid (rqSame ([] : List Rq) [] = true):=by show _ = _; unfold rqSame; simp
      rw [H.out];clear h h' hl h0 ha;go_enter Tryz.func53,Tryz.ntmps53;(go_wp2_with fail);refine wp_loop_rounds 1 ?_
      iterate 1 (rw [rounds_succ]; go_wp2_with fail)
      go_ret;exact ⟨rfl,Below.refl _ _⟩
    · obtain ⟨g,o,hA,_,hc⟩:=Rws.cell (s:=6) (fun _ => rfl) (by decide) h (k:=0) (by omega)
      obtain ⟨g',o',hA',_,hc'⟩:=Rws.cell (s:=6) (fun _ => rfl) (by decide) h' (k:=0) (by omega);subst hA hA';have hcell : ∀ {g o : Nat} {l : List Rq} {c : Nat},Rqs w (.slice (some ⟨g,o,none⟩) l.length c) l → ∀ j,j < l.length → ∀ i v,(rqE l[j]!)[i]? = some v → w.cell? ⟨g,o + j * 6 + i,none⟩ = some v:=by
        intro g o l c h j hj i v hv;obtain ⟨g2,o2,e,_,hc⟩:=Rws.cell (s:=6) (fun _ => rfl) (by decide) h hj;injection e with e
        injection e with e1 e2
        subst e1 e2;rw [getElem!_pos l j hj] at hv;have hi : i < 6:=by have:=(List.getElem?_eq_some_iff.1 hv).1; simpa [rqE] using this
        rw [Nat.add_assoc];exact hc i v hi hv
      have hz:=AnyQ.slices_Equal Tryz.rqeq_lays 6 Tryz.isAgg119 Tryz.sizeOf119 rqE rqE_len _ rqneq g o a.length c g' o' b.length c' a b w (Nat.le_refl _) (Nat.le_refl _) (by omega) (by omega) (hcell h) (hcell h');refine Calls.mono hz ?_;rintro e w1 ⟨he,q,hw⟩;rw [List.take_length,List.take_length,allEq_dec] at he;exact ⟨he,by rw [hw]; exact drewN_below3 w q⟩
  · have H : Hid (rqSame a b = false):=by show _ = _; unfold rqSame; simp; intro e; rw [e] at hl; exact hl rfl
    rw [H.out];have hl' : ((a.length : Int) != (b.length : Int)) = true:=by simp; omega
    have hl2 : ((a.length : Int) == (b.length : Int)) = false:=by simp; omega
    have hl3 : ¬ (a.length : Int) = (b.length : Int):=by omega
    clear h h' hl ha;go_enter Tryz.func53,Tryz.ntmps53;(go_wp2_with fail);go_ret;exact ⟨rfl,Below.refl _ _⟩
instance : Inhabited Hn:=⟨⟨0,0,0,false⟩⟩
theorem hnneq : NeqAt Tryz.prog 122 (fun q : Hn => .agg (hnE q).toArray) (fun x y => decide (x = y)):=by
  refine ⟨fun x y w => ?_,GuardAt.agg _ (by kernel_rfl)⟩;have u3:=Tryz.underlying3;have a3:=Tryz.isAgg3;have z3:=Tryz.sizeOf3;have u4:=Tryz.underlying4;have a4:=Tryz.isAgg4;have z4:=Tryz.sizeOf4;have hS : Tryz.prog.underlying 122 = some (.struct (Tryz.prog.fieldsOf 122)):=by kernel_rfl
  have hp : Tryz.prog.stoodInHeld 122 = false:=by kernel_rfl
  simp only [hnE];rw [run_neq_struct,show (10000 : Nat) = 9999 + 1 from rfl,run_equalIn_agg w 9999 122 _ _ hS hp];simp only [Program.fieldsOf,Tryz.underlying122]
  by_cases h0 : x.xt = y.xt
  · skip
    by_cases h1 : x.fuel = y.fuel
    · skip
      by_cases h2 : x.strikes = y.strikes
      · skip
        by_cases h3 : x.out = y.out
        · skip
          have e : x = y:=by cases x; cases y; simp_all
          subst e;go_simp
        · have e : ¬ x = y:=fun e => h3 (by rw [e])
          go_simp
      · have e : ¬ x = y:=fun e => h2 (by rw [e])
        go_simp
    · have e : ¬ x = y:=fun e => h1 (by rw [e])
      go_simp
  · have e : ¬ x = y:=fun e => h0 (by rw [e])
    go_simp
theorem hnE_len (q : Hn) : (hnE q).length = 4:=rfl
theorem hnequal_any (A A' : Option Addr) (n c n' c' : Nat) (a b : List Hn) (w : World) (h : Hns w (.slice A n c) a) (h' : Hns w (.slice A' n' c') b) (ha : n ≤ 1000000) :
    Calls Tryz.prog 54 #[.slice A n c,.slice A' n' c'] w fun e w' => e = .returned (.bool (hnSame a b)) ∧ Below w.heap.size w w':=by
  have ea : a.length = n:=h.len;have eb : b.length = n':=h'.len;subst ea eb
  by_cases hl : a.length = b.length
  · by_cases h0 : a.length = 0
    · have e1 : a = []:=List.eq_nil_of_length_eq_zero h0
      have e2 : b = []:=List.eq_nil_of_length_eq_zero (by omega);subst e1 e2;have H : Hid (hnSame ([] : List Hn) [] = true):=by show _ = _; unfold hnSame; simp
      rw [H.out];clear h h' hl h0 ha;go_enter Tryz.func54,Tryz.ntmps54;(go_wp2_with fail);refine wp_loop_rounds 1 ?_
      iterate 1 (rw [rounds_succ]; go_wp2_with fail)
      go_ret;exact ⟨rfl,Below.refl _ _⟩
    · obtain ⟨g,o,hA,_,hc⟩:=Rws.cell (s:=4) (fun _ => rfl) (by decide) h (k:=0) (by omega)
      obtain ⟨g',o',hA',_,hc'⟩:=Rws.cell (s:=4) (fun _ => rfl) (by decide) h' (k:=0) (by omega);subst hA hA';have hcell : ∀ {g o : Nat} {l : List Hn} {c : Nat},Hns w (.slice (some ⟨g,o,none⟩) l.length c) l → ∀ j,j < l.length → ∀ i v,(hnE l[j]!)[i]? = some v → w.cell? ⟨g,o + j * 4 + i,none⟩ = some v:=by
        intro g o l c h j hj i v hv;obtain ⟨g2,o2,e,_,hc⟩:=Rws.cell (s:=4) (fun _ => rfl) (by decide) h hj;injection e with e
        injection e with e1 e2
        subst e1 e2;rw [getElem!_pos l j hj] at hv;have hi : i < 4:=by have:=(List.getElem?_eq_some_iff.1 hv).1; simpa [hnE] using this
        rw [Nat.add_assoc];exact hc i v hi hv
      have hz:=AnyQ.slices_Equal Tryz.hneq_lays 4 Tryz.isAgg122 Tryz.sizeOf122 hnE hnE_len _ hnneq g o a.length c g' o' b.length c' a b w (Nat.le_refl _) (Nat.le_refl _) (by omega) (by omega) (hcell h) (hcell h');refine Calls.mono hz ?_;rintro e w1 ⟨he,q,hw⟩;rw [List.take_length,List.take_length,allEq_dec] at he;exact ⟨he,by rw [hw]; exact drewN_below3 w q⟩
  · have H : Hid (hnSame a b = false):=by show _ = _; unfold hnSame; simp; intro e; rw [e] at hl; exact hl rfl
    rw [H.out];have hl' : ((a.length : Int) != (b.length : Int)) = true:=by simp; omega
    have hl2 : ((a.length : Int) == (b.length : Int)) = false:=by simp; omega
    have hl3 : ¬ (a.length : Int) = (b.length : Int):=by omega
    clear h h' hl ha;go_enter Tryz.func54,Tryz.ntmps54;(go_wp2_with fail);go_ret;exact ⟨rfl,Below.refl _ _⟩
open Go.RowKit


abbrev PicOut (o : Bool) (l' : List UInt8) (k : Int) (w : World) (e : Ending) (w' : World) : Prop:=∃ A' n' c',e = .returned (.tuple #[.agg #[.slice A' n' c',.bool o],.int .i64 k]) ∧ Byt w' (.slice A' n' c') l' ∧ Below w.heap.size w w'
end Go.Proofs.YtcmldhjicjmmgaaGreatDoor
