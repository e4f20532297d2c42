/- Part 10. -/
import Derived.Test.YtcmldhjicjmmgaaGreatDoorXkAI
import Derived.Shelf.SlicesE.Equal
import Derived.ChangeKeysEq
set_option linter.unusedVariables false
set_option linter.unusedSimpArgs false
set_option maxRecDepth 100000
set_option maxHeartbeats 4000000

namespace Go.Proofs.YtcmldhjicjmmgaaGreatDoor
open Go.RowKit


theorem VBox.cell_is {w : World} {b : Nat} {k : VmK} (h : VBox w b k) {i : Nat} {v : Value} (hc : w.cell? ⟨b,i,none⟩ = some v) : v ∈ vmC k:=by
  unfold VBox at h;unfold World.cell? at hc;rw [h] at hc;exact Array.mem_of_getElem? hc
theorem VBox.no_u8 {w : World} {b : Nat} {k : VmK} (h : VBox w b k) {i : Nat} {x : Int} : w.cell? ⟨b,i,none⟩ ≠ some (.int .u8 x):=by
  intro hc;have:=h.cell_is hc;simp at this
theorem VBox.no_str {w : World} {b : Nat} {k : VmK} (h : VBox w b k) {i : Nat} {x : ByteArray} : w.cell? ⟨b,i,none⟩ ≠ some (.string x):=by
  intro hc;have:=h.cell_is hc;simp at this
theorem lies_row {w : World} {b : Nat} {A : Option Addr} {xs : List Value} (h : Lies w A xs) (cs : Array Value) (hb : ∀ i v,xs[0]? = some v → w.cell? ⟨b,i,none⟩ ≠ some v) : Lies (w.setRow b cs) A xs:=by
  rcases h with h | ⟨g,o,e,hg,hc⟩
  · exact .inl h
  · cases hx : xs with
    | nil => exact .inl rfl
    | cons y ys =>
      right;have h0 : xs[0]? = some y:=by rw [hx]; rfl
      have hne : g ≠ b:=by
        rintro rfl;exact hb _ _ h0 (hc 0 y h0)
      refine ⟨g,o,e,by rw [size_setRow]; exact hg,fun j v hv => ?_⟩;have:=hc j v (by rw [hx]; exact hv);unfold World.cell? at this ⊢;rw [setRow_other _ _ _ _ hne];exact this
theorem Byt.vrow {w : World} {b : Nat} {k : VmK} {v : Value} {l : List UInt8} (h : Byt w v l) (hb : VBox w b k) (cs : Array Value) : Byt (w.setRow b cs) v l:=by
  obtain ⟨A,c,e,h1,h2,h3⟩:=h;refine ⟨A,c,e,h1,h2,lies_row h3 cs fun i v hv => ?_⟩;cases l with
  | nil => simp [u8s] at hv
  | cons x xs =>
    simp [u8s] at hv;rw [← hv];exact hb.no_u8
theorem Wds.vrow {w : World} {b : Nat} {k : VmK} {v : Value} {l : List Wr} (h : Wds w v l) (hb : VBox w b k) (cs : Array Value) : Wds (w.setRow b cs) v l:=by
  obtain ⟨A,c,e,h1,h2,h3⟩:=h;refine ⟨A,c,e,h1,h2,lies_row h3 cs fun i v hv => ?_⟩;cases l with
  | nil => simp [wds] at hv
  | cons x xs =>
    simp [wds,wcell] at hv;rw [← hv];exact hb.no_str


theorem bn_row {L j : Nat} (hj : j < L) : bn (rowN L 167,[]) j = (byteN 167 j).toNat:=by
  unfold bn;rw [List.getD_eq_getElem?_getD,rowN_at hj];rfl
theorem cell_ok {L p : Nat} (h8 : p % 8 = 0) (hp : p + 8 ≤ L) : cellC L (p : Int) = 0:=by
  have h1 : okB L (p : Int) 8 = true:=by unfold okB; rw [decide_eq_true_eq]; omega
  unfold cellC;rw [if_pos h1,if_pos (by omega)]
theorem fetch_row {L p : Nat} (h8 : p % 8 = 0) (hp : p + 8 ≤ L) : fetchF (rowN L 167,[]) (p : Int) = wrap64 (eight (byteN 167 p).toNat (byteN 167 (p + 1)).toNat (byteN 167 (p + 2)).toNat (byteN 167 (p + 3)).toNat (byteN 167 (p + 4)).toNat (byteN 167 (p + 5)).toNat (byteN 167 (p + 6)).toNat (byteN 167 (p + 7)).toNat : Int):=by
  unfold fetchF;rw [show ((rowN L 167,([] : List Pt)) : PM).1.length = L from rowN_len L 167,if_pos (cell_ok h8 hp),Int.toNat_natCast];rw [bn_row (by omega),bn_row (by omega),bn_row (by omega),bn_row (by omega),bn_row (by omega),bn_row (by omega),bn_row (by omega),bn_row (by omega)]
theorem field_bytes : ∀ i,i < 167 → wrap64 (eight (byteN 167 (32 + 8 * i)).toNat (byteN 167 (32 + 8 * i + 1)).toNat (byteN 167 (32 + 8 * i + 2)).toNat (byteN 167 (32 + 8 * i + 3)).toNat (byteN 167 (32 + 8 * i + 4)).toNat (byteN 167 (32 + 8 * i + 5)).toNat (byteN 167 (32 + 8 * i + 6)).toNat (byteN 167 (32 + 8 * i + 7)).toNat : Int) = ((numN i : Nat) : Int):=by decide +kernel
theorem fetch_num {L i : Nat} (hL : 1368 ≤ L) (hi : i < 167) : fetchF (rowN L 167,[]) ((32 + 8 * i : Nat) : Int) = ((numN i : Nat) : Int):=by
  rw [fetch_row (by omega) (by omega)];exact field_bytes i hi
end Go.Proofs.YtcmldhjicjmmgaaGreatDoor

namespace Go.Proofs
open Go.Shelf Go.Lib
def Tryz.ieq_ren : Go.Shelf.Ren:=⟨fun | 33 => 50 | n => n,fun | 0 => 0 | 3 => 3 | 4 => 4 | 22 => 22 | 23 => 3 | n => n,fun n => n⟩
theorem Tryz.ieq_lays : Go.Proofs.SlLaysE.n33 Tryz.prog Tryz.ieq_ren:={
  mixed:=by kernel_rfl
  f33 := ⟨"slices.Equal[[]int,int]", by decide, Tryz.func50.trans (congrArg some (by kernel_rfl))⟩
  t0:=Tryz.underlying0
  a0:=Tryz.isAgg0
  z0:=Tryz.sizeOf0
  v0:=Tryz.zeroValue0
  t3:=Tryz.underlying3
  a3:=Tryz.isAgg3
  z3:=Tryz.sizeOf3
  v3:=Tryz.zeroValue3
  t4:=Tryz.underlying4
  a4:=Tryz.isAgg4
  z4:=Tryz.sizeOf4
  v4:=Tryz.zeroValue4
  t22:=Tryz.underlying22
  a22:=Tryz.isAgg22
  z22:=Tryz.sizeOf22
  v22:=Tryz.zeroValue22
  a23:=Tryz.isAgg3
  z23:=Tryz.sizeOf3 }
def Tryz.fmeq_ren : Go.Shelf.Ren:=⟨fun | 8 => 51 | n => n,fun | 0 => 0 | 3 => 3 | 4 => 4 | 22 => 30 | 24 => 102 | n => n,fun n => n⟩
theorem Tryz.fmeq_lays : Go.Proofs.SlLaysQ.n8 Tryz.prog Tryz.fmeq_ren:={
  mixed:=by kernel_rfl
  f8 := ⟨"slices.Equal[[]detent/api.Frame,detent/api.Frame]", by decide, Tryz.func51.trans (congrArg some (by kernel_rfl))⟩
  t0:=Tryz.underlying0
  a0:=Tryz.isAgg0
  z0:=Tryz.sizeOf0
  v0:=Tryz.zeroValue0
  t3:=Tryz.underlying3
  a3:=Tryz.isAgg3
  z3:=Tryz.sizeOf3
  v3:=Tryz.zeroValue3
  t4:=Tryz.underlying4
  a4:=Tryz.isAgg4
  z4:=Tryz.sizeOf4
  v4:=Tryz.zeroValue4
  t22:=Tryz.underlying30
  a22:=Tryz.isAgg30
  z22:=Tryz.sizeOf30
  v22:=Tryz.zeroValue30 }
def Tryz.rqeq_ren : Go.Shelf.Ren:=⟨fun | 8 => 53 | n => n,fun | 0 => 0 | 3 => 3 | 4 => 4 | 22 => 34 | 24 => 119 | n => n,fun n => n⟩
theorem Tryz.rqeq_lays : Go.Proofs.SlLaysQ.n8 Tryz.prog Tryz.rqeq_ren:={
  mixed:=by kernel_rfl
  f8 := ⟨"slices.Equal[[]detent/api.Req,detent/api.Req]", by decide, Tryz.func53.trans (congrArg some (by kernel_rfl))⟩
  t0:=Tryz.underlying0
  a0:=Tryz.isAgg0
  z0:=Tryz.sizeOf0
  v0:=Tryz.zeroValue0
  t3:=Tryz.underlying3
  a3:=Tryz.isAgg3
  z3:=Tryz.sizeOf3
  v3:=Tryz.zeroValue3
  t4:=Tryz.underlying4
  a4:=Tryz.isAgg4
  z4:=Tryz.sizeOf4
  v4:=Tryz.zeroValue4
  t22:=Tryz.underlying34
  a22:=Tryz.isAgg34
  z22:=Tryz.sizeOf34
  v22:=Tryz.zeroValue34 }
def Tryz.hneq_ren : Go.Shelf.Ren:=⟨fun | 8 => 54 | n => n,fun | 0 => 0 | 3 => 3 | 4 => 4 | 22 => 35 | 24 => 122 | n => n,fun n => n⟩
theorem Tryz.hneq_lays : Go.Proofs.SlLaysQ.n8 Tryz.prog Tryz.hneq_ren:={
  mixed:=by kernel_rfl
  f8 := ⟨"slices.Equal[[]detent/api.Hand,detent/api.Hand]", by decide, Tryz.func54.trans (congrArg some (by kernel_rfl))⟩
  t0:=Tryz.underlying0
  a0:=Tryz.isAgg0
  z0:=Tryz.sizeOf0
  v0:=Tryz.zeroValue0
  t3:=Tryz.underlying3
  a3:=Tryz.isAgg3
  z3:=Tryz.sizeOf3
  v3:=Tryz.zeroValue3
  t4:=Tryz.underlying4
  a4:=Tryz.isAgg4
  z4:=Tryz.sizeOf4
  v4:=Tryz.zeroValue4
  t22:=Tryz.underlying35
  a22:=Tryz.isAgg35
  z22:=Tryz.sizeOf35
  v22:=Tryz.zeroValue35 }
end Go.Proofs
namespace Go.Proofs.YtcmldhjicjmmgaaGreatDoor
open Go.RowKit Go.Lib Go.Shelf


theorem allEq_dec {α : Type} [DecidableEq α] (a b : List α) : Lib.allEq (fun x y : α => decide (x = y)) a b = decide (a = b):=by
  induction a generalizing b with
  | nil => cases b <;> simp [Lib.allEq]
  | cons x a ih =>
    cases b with
    | nil => simp [Lib.allEq]
    | cons y b => simp [Lib.allEq,ih]
theorem neq_intD (T : TypeId) : NeqAt Tryz.prog T (Value.int .i64) (fun x y => decide (x = y)):=⟨fun x y w => by rw [(NeqAt.int Tryz.prog T .i64).1 x y w]; by_cases h : x = y <;> simp [h],.int Tryz.prog T .i64⟩
theorem drewN_below3 (w : World) (n : Nat) : Below w.heap.size w (w.drewN n):=⟨rfl,rfl,rfl,Nat.le_refl _,fun _ _ => rfl⟩
theorem iequal_any (A A' : Option Addr) (n c n' c' : Nat) (a b : List Int) (w : World) (h : Row w A n c a) (h' : Row w A' n' c' b) (ha : n ≤ 1000000) :
    Calls Tryz.prog 50 #[.slice A n c,.slice A' n' c'] w fun e w' => e = .returned (.bool (sameB a b)) ∧ Below w.heap.size w w':=by
  have ea : a.length = n:=h.1;have eb : b.length = n':=h'.1;subst ea eb
  by_cases hl : a.length = b.length
  · by_cases h0 : a.length = 0
    · have e1 : a = []:=List.eq_nil_of_length_eq_zero h0
      have e2 : b = []:=List.eq_nil_of_length_eq_zero (by omega);subst e1 e2;have H : Hid (sameB ([] : List Int) [] = true):=by show _ = _; unfold sameB; simp
      rw [H.out];clear h h' hl h0 ha;go_enter Tryz.func50,Tryz.ntmps50;(go_wp2_with fail);refine wp_loop_rounds 1 ?_
      iterate 1 (rw [rounds_succ]; go_wp2_with fail)
      go_ret;exact ⟨rfl,Below.refl _ _⟩
    · obtain ⟨g,o,hA,_,hc⟩:=h.cells (by omega)
      obtain ⟨g',o',hA',_,hc'⟩:=h'.cells (by omega);subst hA hA';have hz:=AnyE.slices_Equal Tryz.ieq_lays (Value.int .i64) (fun x y => decide (x = y)) (neq_intD 3) g o a.length c g' o' b.length c' a b w (Nat.le_refl _) (Nat.le_refl _) (by omega) (by omega) (fun j hj => by rw [hc j hj,List.getD_eq_getElem?_getD,List.getElem?_eq_getElem hj,getElem!_pos a j hj]; rfl) (fun j hj => by rw [hc' j hj,List.getD_eq_getElem?_getD,List.getElem?_eq_getElem hj,getElem!_pos b j hj]; rfl);refine Calls.mono hz ?_;rintro e w1 ⟨he,q,hw⟩;rw [List.take_length,List.take_length,allEq_dec] at he;exact ⟨he,by rw [hw]; exact drewN_below3 w q⟩
  · have H : Hid (sameB a b = false):=by show _ = _; unfold sameB; simp; intro e; rw [e] at hl; exact hl rfl
    rw [H.out];have hl' : ((a.length : Int) != (b.length : Int)) = true:=by simp; omega
    have hl2 : ((a.length : Int) == (b.length : Int)) = false:=by simp; omega
    have hl3 : ¬ (a.length : Int) = (b.length : Int):=by omega
    clear h h' hl ha;go_enter Tryz.func50,Tryz.ntmps50;(go_wp2_with fail);go_ret;exact ⟨rfl,Below.refl _ _⟩
instance : Inhabited Fm:=⟨⟨0,0,0⟩⟩
theorem fmneq : NeqAt Tryz.prog 102 (fun q : Fm => .agg (fmE q).toArray) (fun x y => decide (x = y)):=by
  refine ⟨fun x y w => ?_,GuardAt.agg _ (by kernel_rfl)⟩;have u3:=Tryz.underlying3;have a3:=Tryz.isAgg3;have z3:=Tryz.sizeOf3;have u4:=Tryz.underlying4;have a4:=Tryz.isAgg4;have z4:=Tryz.sizeOf4;have hS : Tryz.prog.underlying 102 = some (.struct (Tryz.prog.fieldsOf 102)):=by kernel_rfl
  have hp : Tryz.prog.stoodInHeld 102 = false:=by kernel_rfl
  simp only [fmE];rw [run_neq_struct,show (10000 : Nat) = 9999 + 1 from rfl,run_equalIn_agg w 9999 102 _ _ hS hp];simp only [Program.fieldsOf,Tryz.underlying102]
  by_cases h0 : x.d = y.d
  · skip
    by_cases h1 : x.r = y.r
    · skip
      by_cases h2 : x.ip = y.ip
      · skip
        have e : x = y:=by cases x; cases y; simp_all
        subst e;go_simp
      · have e : ¬ x = y:=fun e => h2 (by rw [e])
        go_simp
    · have e : ¬ x = y:=fun e => h1 (by rw [e])
      go_simp
  · have e : ¬ x = y:=fun e => h0 (by rw [e])
    go_simp
theorem fmE_len (q : Fm) : (fmE q).length = 3:=rfl
theorem fmequal_any (A A' : Option Addr) (n c n' c' : Nat) (a b : List Fm) (w : World) (h : Fms w (.slice A n c) a) (h' : Fms w (.slice A' n' c') b) (ha : n ≤ 1000000) :
    Calls Tryz.prog 51 #[.slice A n c,.slice A' n' c'] w fun e w' => e = .returned (.bool (fmSame a b)) ∧ Below w.heap.size w w':=by
  have ea : a.length = n:=h.len;have eb : b.length = n':=h'.len;subst ea eb
  by_cases hl : a.length = b.length
  · by_cases h0 : a.length = 0
    · have e1 : a = []:=List.eq_nil_of_length_eq_zero h0
      have e2 : b = []:=List.eq_nil_of_length_eq_zero (by omega);subst e1 e2;have H : Hid (fmSame ([] : List Fm) [] = true):=by show _ = _; unfold fmSame; simp
      rw [H.out];clear h h' hl h0 ha;go_enter Tryz.func51,Tryz.ntmps51;(go_wp2_with fail);refine wp_loop_rounds 1 ?_
      iterate 1 (rw [rounds_succ]; go_wp2_with fail)
      go_ret;exact ⟨rfl,Below.refl _ _⟩
    · obtain ⟨g,o,hA,_,hc⟩:=Rws.cell (s:=3) (fun _ => rfl) (by decide) h (k:=0) (by omega)
      obtain ⟨g',o',hA',_,hc'⟩:=Rws.cell (s:=3) (fun _ => rfl) (by decide) h' (k:=0) (by omega);subst hA hA';have hcell : ∀ {g o : Nat} {l : List Fm} {c : Nat},Fms w (.slice (some ⟨g,o,none⟩) l.length c) l → ∀ j,j < l.length → ∀ i v,(fmE l[j]!)[i]? = some v → w.cell? ⟨g,o + j * 3 + i,none⟩ = some v:=by
        intro g o l c h j hj i v hv;obtain ⟨g2,o2,e,_,hc⟩:=Rws.cell (s:=3) (fun _ => rfl) (by decide) h hj;injection e with e
        injection e with e1 e2
        subst e1 e2;rw [getElem!_pos l j hj] at hv;have hi : i < 3:=by have:=(List.getElem?_eq_some_iff.1 hv).1; simpa [fmE] using this
        rw [Nat.add_assoc];exact hc i v hi hv
      have hz:=AnyQ.slices_Equal Tryz.fmeq_lays 3 Tryz.isAgg102 Tryz.sizeOf102 fmE fmE_len _ fmneq g o a.length c g' o' b.length c' a b w (Nat.le_refl _) (Nat.le_refl _) (by omega) (by omega) (hcell h) (hcell h');refine Calls.mono hz ?_;rintro e w1 ⟨he,q,hw⟩;rw [List.take_length,List.take_length,allEq_dec] at he;exact ⟨he,by rw [hw]; exact drewN_below3 w q⟩
  · have H : Hid (fmSame a b = false):=by show _ = _; unfold fmSame; simp; intro e; rw [e] at hl; exact hl rfl
    rw [H.out];have hl' : ((a.length : Int) != (b.length : Int)) = true:=by simp; omega
    have hl2 : ((a.length : Int) == (b.length : Int)) = false:=by simp; omega
    have hl3 : ¬ (a.length : Int) = (b.length : Int):=by omega
    clear h h' hl ha;go_enter Tryz.func51,Tryz.ntmps51;(go_wp2_with fail);go_ret;exact ⟨rfl,Below.refl _ _⟩
instance : Inhabited Rq:=⟨⟨0,0,0,0,0,0⟩⟩
theorem rqneq : NeqAt Tryz.prog 119 (fun q : Rq => .agg (rqE q).toArray) (fun x y => decide (x = y)):=by
  refine ⟨fun x y w => ?_,GuardAt.agg _ (by kernel_rfl)⟩;have u3:=Tryz.underlying3;have a3:=Tryz.isAgg3;have z3:=Tryz.sizeOf3;have u4:=Tryz.underlying4;have a4:=Tryz.isAgg4;have z4:=Tryz.sizeOf4;have hS : Tryz.prog.underlying 119 = some (.struct (Tryz.prog.fieldsOf 119)):=by kernel_rfl
  have hp : Tryz.prog.stoodInHeld 119 = false:=by kernel_rfl
  simp only [rqE];rw [run_neq_struct,show (10000 : Nat) = 9999 + 1 from rfl,run_equalIn_agg w 9999 119 _ _ hS hp];simp only [Program.fieldsOf,Tryz.underlying119]
  by_cases h0 : x.kind = y.kind
  · skip
    by_cases h1 : x.arg = y.arg
    · skip
      by_cases h2 : x.hand = y.hand
      · skip
        by_cases h3 : x.rank = y.rank
        · skip
          by_cases h4 : x.delay = y.delay
          · skip
            by_cases h5 : x.id = y.id
            · skip
              have e : x = y:=by cases x; cases y; simp_all
              subst e;go_simp
            · have e : ¬ x = y:=fun e => h5 (by rw [e])
              go_simp
          · have e : ¬ x = y:=fun e => h4 (by rw [e])
            go_simp
        · have e : ¬ x = y:=fun e => h3 (by rw [e])
          go_simp
      · have e : ¬ x = y:=fun e => h2 (by rw [e])
        go_simp
    · have e : ¬ x = y:=fun e => h1 (by rw [e])
      go_simp
  · have e : ¬ x = y:=fun e => h0 (by rw [e])
    go_simp
theorem rqE_len (q : Rq) : (rqE q).length = 6:=rfl
theorem rqequal_any (A A' : Option Addr) (n c n' c' : Nat) (a b : List Rq) (w : World) (h : Rqs w (.slice A n c) a) (h' : Rqs w (.slice A' n' c') b) (ha : n ≤ 1000000) :
    Calls Tryz.prog 53 #[.slice A n c,.slice A' n' c'] w fun e w' => e = .returned (.bool (rqSame a b)) ∧ Below w.heap.size w w':=by
  have ea : a.length = n:=h.len;have eb : b.length = n':=h'.len;subst ea eb
  by_cases hl : a.length = b.length
  · by_cases h0 : a.length = 0
    · have e1 : a = []:=List.eq_nil_of_length_eq_zero h0
      have e2 : b = []:=List.eq_nil_of_length_eq_zero (by omega);subst e1 e2;have H : Hid (rqSame ([] : List Rq) [] = true):=by show _ = _; unfold rqSame; simp
      rw [H.out];clear h h' hl h0 ha;go_enter Tryz.func53,Tryz.ntmps53;(go_wp2_with fail);refine wp_loop_rounds 1 ?_
      iterate 1 (rw [rounds_succ]; go_wp2_with fail)
      go_ret;exact ⟨rfl,Below.refl _ _⟩
    · obtain ⟨g,o,hA,_,hc⟩:=Rws.cell (s:=6) (fun _ => rfl) (by decide) h (k:=0) (by omega)
      obtain ⟨g',o',hA',_,hc'⟩:=Rws.cell (s:=6) (fun _ => rfl) (by decide) h' (k:=0) (by omega);subst hA hA';have hcell : ∀ {g o : Nat} {l : List Rq} {c : Nat},Rqs w (.slice (some ⟨g,o,none⟩) l.length c) l → ∀ j,j < l.length → ∀ i v,(rqE l[j]!)[i]? = some v → w.cell? ⟨g,o + j * 6 + i,none⟩ = some v:=by
        intro g o l c h j hj i v hv;obtain ⟨g2,o2,e,_,hc⟩:=Rws.cell (s:=6) (fun _ => rfl) (by decide) h hj;injection e with e
        injection e with e1 e2
        subst e1 e2;rw [getElem!_pos l j hj] at hv;have hi : i < 6:=by have:=(List.getElem?_eq_some_iff.1 hv).1; simpa [rqE] using this
        rw [Nat.add_assoc];exact hc i v hi hv
      have hz:=AnyQ.slices_Equal Tryz.rqeq_lays 6 Tryz.isAgg119 Tryz.sizeOf119 rqE rqE_len _ rqneq g o a.length c g' o' b.length c' a b w (Nat.le_refl _) (Nat.le_refl _) (by omega) (by omega) (hcell h) (hcell h');refine Calls.mono hz ?_;rintro e w1 ⟨he,q,hw⟩;rw [List.take_length,List.take_length,allEq_dec] at he;exact ⟨he,by rw [hw]; exact drewN_below3 w q⟩
  · have H : Hid (rqSame a b = false):=by show _ = _; unfold rqSame; simp; intro e; rw [e] at hl; exact hl rfl
    rw [H.out];have hl' : ((a.length : Int) != (b.length : Int)) = true:=by simp; omega
    have hl2 : ((a.length : Int) == (b.length : Int)) = false:=by simp; omega
    have hl3 : ¬ (a.length : Int) = (b.length : Int):=by omega
    clear h h' hl ha;go_enter Tryz.func53,Tryz.ntmps53;(go_wp2_with fail);go_ret;exact ⟨rfl,Below.refl _ _⟩
instance : Inhabited Hn:=⟨⟨0,0,0,false⟩⟩
theorem hnneq : NeqAt Tryz.prog 122 (fun q : Hn => .agg (hnE q).toArray) (fun x y => decide (x = y)):=by
  refine ⟨fun x y w => ?_,GuardAt.agg _ (by kernel_rfl)⟩;have u3:=Tryz.underlying3;have a3:=Tryz.isAgg3;have z3:=Tryz.sizeOf3;have u4:=Tryz.underlying4;have a4:=Tryz.isAgg4;have z4:=Tryz.sizeOf4;have hS : Tryz.prog.underlying 122 = some (.struct (Tryz.prog.fieldsOf 122)):=by kernel_rfl
  have hp : Tryz.prog.stoodInHeld 122 = false:=by kernel_rfl
  simp only [hnE];rw [run_neq_struct,show (10000 : Nat) = 9999 + 1 from rfl,run_equalIn_agg w 9999 122 _ _ hS hp];simp only [Program.fieldsOf,Tryz.underlying122]
  by_cases h0 : x.xt = y.xt
  · skip
    by_cases h1 : x.fuel = y.fuel
    · skip
      by_cases h2 : x.strikes = y.strikes
      · skip
        by_cases h3 : x.out = y.out
        · skip
          have e : x = y:=by cases x; cases y; simp_all
          subst e;go_simp
        · have e : ¬ x = y:=fun e => h3 (by rw [e])
          go_simp
      · have e : ¬ x = y:=fun e => h2 (by rw [e])
        go_simp
    · have e : ¬ x = y:=fun e => h1 (by rw [e])
      go_simp
  · have e : ¬ x = y:=fun e => h0 (by rw [e])
    go_simp
theorem hnE_len (q : Hn) : (hnE q).length = 4:=rfl
theorem hnequal_any (A A' : Option Addr) (n c n' c' : Nat) (a b : List Hn) (w : World) (h : Hns w (.slice A n c) a) (h' : Hns w (.slice A' n' c') b) (ha : n ≤ 1000000) :
    Calls Tryz.prog 54 #[.slice A n c,.slice A' n' c'] w fun e w' => e = .returned (.bool (hnSame a b)) ∧ Below w.heap.size w w':=by
  have ea : a.length = n:=h.len;have eb : b.length = n':=h'.len;subst ea eb
  by_cases hl : a.length = b.length
  · by_cases h0 : a.length = 0
    · have e1 : a = []:=List.eq_nil_of_length_eq_zero h0
      have e2 : b = []:=List.eq_nil_of_length_eq_zero (by omega);subst e1 e2;have H : Hid (hnSame ([] : List Hn) [] = true):=by show _ = _; unfold hnSame; simp
      rw [H.out];clear h h' hl h0 ha;go_enter Tryz.func54,Tryz.ntmps54;(go_wp2_with fail);refine wp_loop_rounds 1 ?_
      iterate 1 (rw [rounds_succ]; go_wp2_with fail)
      go_ret;exact ⟨rfl,Below.refl _ _⟩
    · obtain ⟨g,o,hA,_,hc⟩:=Rws.cell (s:=4) (fun _ => rfl) (by decide) h (k:=0) (by omega)
      obtain ⟨g',o',hA',_,hc'⟩:=Rws.cell (s:=4) (fun _ => rfl) (by decide) h' (k:=0) (by omega);subst hA hA';have hcell : ∀ {g o : Nat} {l : List Hn} {c : Nat},Hns w (.slice (some ⟨g,o,none⟩) l.length c) l → ∀ j,j < l.length → ∀ i v,(hnE l[j]!)[i]? = some v → w.cell? ⟨g,o + j * 4 + i,none⟩ = some v:=by
        intro g o l c h j hj i v hv;obtain ⟨g2,o2,e,_,hc⟩:=Rws.cell (s:=4) (fun _ => rfl) (by decide) h hj;injection e with e
        injection e with e1 e2
        subst e1 e2;rw [getElem!_pos l j hj] at hv;have hi : i < 4:=by have:=(List.getElem?_eq_some_iff.1 hv).1; simpa [hnE] using this
        rw [Nat.add_assoc];exact hc i v hi hv
      have hz:=AnyQ.slices_Equal Tryz.hneq_lays 4 Tryz.isAgg122 Tryz.sizeOf122 hnE hnE_len _ hnneq g o a.length c g' o' b.length c' a b w (Nat.le_refl _) (Nat.le_refl _) (by omega) (by omega) (hcell h) (hcell h');refine Calls.mono hz ?_;rintro e w1 ⟨he,q,hw⟩;rw [List.take_length,List.take_length,allEq_dec] at he;exact ⟨he,by rw [hw]; exact drewN_below3 w q⟩
  · have H : Hid (hnSame a b = false):=by show _ = _; unfold hnSame; simp; intro e; rw [e] at hl; exact hl rfl
    rw [H.out];have hl' : ((a.length : Int) != (b.length : Int)) = true:=by simp; omega
    have hl2 : ((a.length : Int) == (b.length : Int)) = false:=by simp; omega
    have hl3 : ¬ (a.length : Int) = (b.length : Int):=by omega
    clear h h' hl ha;go_enter Tryz.func54,Tryz.ntmps54;(go_wp2_with fail);go_ret;exact ⟨rfl,Below.refl _ _⟩
open Go.RowKit


abbrev PicOut (o : Bool) (l' : List UInt8) (k : Int) (w : World) (e : Ending) (w' : World) : Prop:=∃ A' n' c',e = .returned (.tuple #[.agg #[.slice A' n' c',.bool o],.int .i64 k]) ∧ Byt w' (.slice A' n' c') l' ∧ Below w.heap.size w w'


def AllInv (o : Bool) (l : List UInt8) (lo hi b : Int) (l' : List UInt8) (u : Nat) (bad : Int) : Prop :=
  (bad = 0 ∧ o = true ∧ baseB b = true ∧ l'.length ≤ 130 ∧ ∃ laid,l' = l ++ laid ∧ (u = 0 → figs lo hi b = laid.reverse) ∧ (u ≠ 0 → figs lo hi b = usF b.toNat u ++ laid.reverse)) ∨ (bad ≠ 0 ∧ l'.length ≤ 1000 ∧ allL o l lo hi b = l ∧ bad = allC o l lo hi b)
theorem base_nat {b : Int} (h : baseB b = true) : 2 ≤ b.toNat ∧ b.toNat ≤ 36:=by have:=(baseB_iff b).1 h; omega
theorem us_one (b u : Nat) : 1 ≤ (usF b u).length:=by
  have:=@us_ne b u;cases h : usF b u with
  | nil => exact absurd h this
  | cons a t => simp
theorem pall_no {o : Bool} {l : List UInt8} {lo hi b : Int} (h : allOK o l lo hi b = false) : allL o l lo hi b = l:=by unfold allL; rw [if_neg (by simp [h])]
theorem div_lt (P k : Nat) (h : P < 340282366920938463463374607431768211456) : P / k < 340282366920938463463374607431768211456:=Nat.lt_of_le_of_lt (Nat.div_le_self _ _) h
theorem digOK_yes {o : Bool} {l : List UInt8} {b : Int} (hb : baseB b = true) (hk : pOpen o l = true) : digOK o l b = true:=by unfold digOK; rw [hb,hk]; rfl
theorem inv_step {o : Bool} {l l' laid : List UInt8} {lo hi b low high : Int} (hb : baseB b = true) (ho : o = true) (hl : l' = l ++ laid) (hl' : l'.length ≤ 130)
    (hf : figs lo hi b = usF b.toNat (pairN low high) ++ laid.reverse) : AllInv o l lo hi b (digL o l' low high b) (pairN (digLo o l' low high b) (digHi o l' low high b)) (digC o l' b):=by
  obtain ⟨h2,h36⟩:=base_nat hb;cases hk : pOpen o l' with
  | true =>
    have hlt:=((pOpen_iff _ _).1 hk).2;refine .inl ⟨?_,ho,hb,?_,laid ++ [digU low high b],?_,?_,?_⟩
    · unfold digC holdC; rw [if_pos hb,if_pos hk]
    · unfold digL; rw [if_pos (digOK_yes hb hk)]; simp; omega
    · unfold digL; rw [if_pos (digOK_yes hb hk),hl]; simp
    all_goals
      unfold digLo digHi;rw [if_pos (digOK_yes hb hk),if_pos (digOK_yes hb hk),pair_back (div_lt _ _ (pairN_lt _ _)),hf];intro h
    · have hlt : pairN low high < b.toNat:=(Nat.div_eq_zero_iff_lt (by omega)).1 h
      rw [usF_low hlt];unfold digU;rw [Nat.mod_eq_of_lt hlt];simp
    · have hge : b.toNat ≤ pairN low high:=by
        rcases Nat.lt_or_ge (pairN low high) b.toNat with h' | h'
        · exact absurd ((Nat.div_eq_zero_iff_lt (by omega)).2 h') h
        · exact h'
      rw [usF_big h2 hge];unfold digU;simp
  | false =>
    have hge : 130 ≤ l'.length:=by have:=(pOpen_no _ _).1 hk; simp [ho] at this; omega
    have hno : allOK o l lo hi b = false:=by
      unfold allOK;rw [hb,hf];have:=us_one b.toNat (pairN low high);rw [hl] at hge;simp at hge ⊢;intro _;omega
    refine .inr ⟨?_,?_,pall_no hno,?_⟩
    · unfold digC holdC; rw [if_pos hb,if_neg (by simp [hk])]; omega
    · unfold digL digOK; rw [hb,hk,if_neg (by simp)]; omega
    · unfold digC holdC allC; rw [if_pos hb,if_pos hb,if_neg (by simp [hk]),hno,if_neg (by simp)]
theorem AllInv.next {o : Bool} {l l' : List UInt8} {lo hi b low high : Int} (h : AllInv o l lo hi b l' (pairN low high) 0) (h0 : pairN low high ≠ 0) : AllInv o l lo hi b (digL o l' low high b) (pairN (digLo o l' low high b) (digHi o l' low high b)) (digC o l' b):=by
  rcases h with ⟨_,ho,hb,hl',laid,hl,_,hf⟩ | ⟨h,_⟩
  · exact inv_step hb ho hl hl' (hf h0)
  · exact absurd rfl h
theorem AllInv.done {o : Bool} {l l' : List UInt8} {lo hi b : Int} (h : AllInv o l lo hi b l' 0 0) : l' = allL o l lo hi b ∧ allC o l lo hi b = 0:=by
  rcases h with ⟨_,ho,hb,hl',laid,hl,hf,_⟩ | ⟨h,_⟩
  · have hf:=hf rfl
    have hok : allOK o l lo hi b = true:=by
      unfold allOK;rw [hb,hf,ho];rw [hl] at hl';simp at hl' ⊢;exact hl'
    refine ⟨?_,?_⟩
    · unfold allL; rw [if_pos hok,hf,hl]; simp
    · unfold allC; rw [if_pos hb,if_pos hok]
  · exact absurd rfl h
theorem AllInv.len {o : Bool} {l l' : List UInt8} {lo hi b bad : Int} {u : Nat} (h : AllInv o l lo hi b l' u bad) : l'.length ≤ 1000:=by
  rcases h with ⟨_,_,_,h,_⟩ | ⟨_,h,_⟩
  · omega
  · exact h


theorem same_any (A A' : Option Addr) (n c n' c' : Nat) (o o' : Bool) (l l' : List UInt8) (w : World) (h : Byt w (.slice A n c) l) (h' : Byt w (.slice A' n' c') l') :
    Calls Tryz.prog 49 #[.agg #[.slice A n c,.bool o],.agg #[.slice A' n' c',.bool o']] w fun e w' => e = .returned (.bool (pSame o l o' l')) ∧ Below w.heap.size w w':=by
  by_cases ho : o = o'
  · subst ho
    have H : Hid (pSame o l o l' = decide (l = l')):=by show _ = _; unfold pSame; simp
    rw [H.out];obtain ⟨d,hd⟩ : ∃ d,decide (l = l') = d:=⟨_,rfl⟩;have k1:=al_two w (.cells #[.slice A n c,.bool o] 33) (.cells #[.slice A' n' c',.bool o] 33);have HE:=zqh (equal_any A A' n c n' c' l l' _ (h.keep k1) (h'.keep k1));rw [hd] at HE;rw [hd];have K:=zqh k1;have hb : PBox _ _ _ _ _ _ ∧ PBox _ _ _ _ _ _:=box_two w (.slice A n c) (.bool o) (.slice A' n' c') (.bool o) 33 33;obtain ⟨b1,b2,_,_⟩:=hb.1.use;obtain ⟨b3,b4,_,_⟩:=hb.2.use;clear h h' k1 hb hd;go_enter Tryz.func49,Tryz.ntmps49;(go_wp2_with fail);refine HE.out.mono ?_;rintro e w1 ⟨rfl,rfl⟩;(go_wp2_with fail);go_ret;exact ⟨rfl,K.out⟩
  · have H : Hid (pSame o l o' l' = false):=by show _ = _; unfold pSame; simp [ho]
    rw [H.out];have ho' : (o == o') = false:=by simpa using ho
    clear h h' ho;go_enter Tryz.func49,Tryz.ntmps49;go_wp2;go_ret;exact ⟨rfl,al_two w (.cells #[.slice A n c,.bool o] 33) (.cells #[.slice A' n' c',.bool o'] 33)⟩


theorem conf_eql (k j : VmK) (w : World) : (binOp .eql 25 (.agg #[.int .i64 k.cm,.int .i64 k.cd,.int .i64 k.cr,.int .i64 k.cw,.int .i64 k.co]) (.agg #[.int .i64 j.cm,.int .i64 j.cd,.int .i64 j.cr,.int .i64 j.cw,.int .i64 j.co])).run Tryz.prog w = .ok (.bool (confSame k j)) w:=by
  have u3:=Tryz.underlying3;have a3:=Tryz.isAgg3;have z3:=Tryz.sizeOf3;have hS : Tryz.prog.underlying 25 = some (.struct (Tryz.prog.fieldsOf 25)):=by kernel_rfl
  have hp : Tryz.prog.stoodInHeld 25 = false:=by kernel_rfl
  rw [run_eql_struct,show (10000 : Nat) = 9999 + 1 from rfl,run_equalIn_agg w 9999 25 _ _ hS hp];simp only [Program.fieldsOf,Tryz.underlying25];unfold confSame
  by_cases h0 : k.cm = j.cm
  · skip
    by_cases h1 : k.cd = j.cd
    · skip
      by_cases h2 : k.cr = j.cr
      · skip
        by_cases h3 : k.cw = j.cw
        · skip
          by_cases h4 : k.co = j.co
          · skip
            go_simp
          · go_simp
        · go_simp
      · go_simp
    · go_simp
  · go_simp
theorem nums_eql (k j : VmK) (w : World) : (binOp .eql 110 (.agg #[.int .i64 k.here,.int .i64 k.last,.int .i64 k.free,.int .i64 k.next,.int .i64 k.arg,.int .i64 k.self,.int .i64 k.now]) (.agg #[.int .i64 j.here,.int .i64 j.last,.int .i64 j.free,.int .i64 j.next,.int .i64 j.arg,.int .i64 j.self,.int .i64 j.now])).run Tryz.prog w = .ok (.bool (numsSame k j)) w:=by
  have u3:=Tryz.underlying3;have a3:=Tryz.isAgg3;have z3:=Tryz.sizeOf3;obtain ⟨i,hi⟩ : ∃ i,Tryz.prog.info? 3 = some i:=⟨_,by rfl⟩;have hc : Tryz.prog.cellsOf 3 = 1:=by kernel_rfl
  rw [run_eql_struct,show (10000 : Nat) = 9999 + 1 from rfl,run_equalIn_array w 9999 _ _ Tryz.underlying110 hi,hc];rw [show List.range 7 = [0,1,2,3,4,5,6] from rfl];simp only [Op.eqItems];unfold numsSame
  by_cases h0 : k.here = j.here
  · skip
    by_cases h1 : k.last = j.last
    · skip
      by_cases h2 : k.free = j.free
      · skip
        by_cases h3 : k.next = j.next
        · skip
          by_cases h4 : k.arg = j.arg
          · skip
            by_cases h5 : k.self = j.self
            · skip
              by_cases h6 : k.now = j.now
              · skip
                go_simp
              · go_simp
            · go_simp
          · go_simp
        · go_simp
      · go_simp
    · go_simp
  · go_simp
theorem vnums_any (k : VmK) (w : World) : Calls Tryz.prog 46 #[vmV k] w fun e w' => e = .returned (.agg #[.int .i64 k.here,.int .i64 k.last,.int .i64 k.free,.int .i64 k.next,.int .i64 k.arg,.int .i64 k.self,.int .i64 k.now]) ∧ Below w.heap.size w w':=by
  go_enter Tryz.func46,Tryz.ntmps46;go_wp2;refine bodyPost_ret (v:=.agg #[.int .i64 k.here,.int .i64 k.last,.int .i64 k.free,.int .i64 k.next,.int .i64 k.arg,.int .i64 k.self,.int .i64 k.now]) ?_ rfl ?_
  · simp [results,Tryz.results46,go_sem]
  · exact ⟨rfl,al_two w _ _⟩
end Go.Proofs.YtcmldhjicjmmgaaGreatDoor
