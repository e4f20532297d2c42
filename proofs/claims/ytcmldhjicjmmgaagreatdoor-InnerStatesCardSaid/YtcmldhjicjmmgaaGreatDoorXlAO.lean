/- Part 15. -/
import Derived.Test.YtcmldhjicjmmgaaGreatDoorXlAN
set_option linter.unusedVariables false
set_option linter.unusedSimpArgs false
set_option maxRecDepth 100000
set_option maxHeartbeats 4000000

namespace Go.Proofs.YtcmldhjicjmmgaaGreatDoor
open Go.RowKit


theorem picked_none (A : Option Addr) (c : Nat) (w : World) (HR : Hid (Row w A 0 c [])) :
    Calls Tryz.prog 267 #[.slice A 0 c] w fun e w' => e = .returned (.tuple #[.slice none 0 0,.int .i64 (-4)]) ∧ Below w.heap.size w w':=by
  go_enter Tryz.func267,Tryz.ntmps267;(go_wp2_with fail);refine (numbered_none _ _ _ HR).mono ?_;rintro e w1 ⟨rfl,bb⟩;(go_wp2_with fail);go_ret2;exact ⟨rfl,bb⟩
theorem rolled_none (A : Option Addr) (c : Nat) (w : World) (HR : Hid (Row w A 0 c [])) :
    Calls Tryz.prog 268 #[.slice A 0 c] w fun e w' => e = .returned (.tuple #[.slice none 0 0,.int .i64 (-4)]) ∧ Below w.heap.size w w':=by
  go_enter Tryz.func268,Tryz.ntmps268;(go_wp2_with fail);refine (numbered_none _ _ _ HR).mono ?_;rintro e w1 ⟨rfl,bb⟩;(go_wp2_with fail);go_ret2;exact ⟨rfl,bb⟩
theorem picked_out (A : Option Addr) (k c : Nat) (l : List Int) (y : Int) (w : World) (hn : k + 1 ≤ 65536) (hy : y < 0 ∨ (k : Int) ≤ y) (HR : Hid (Row w A (k + 1) c l)) (HY : Hid (l.getD k 0 = y)) :
    Calls Tryz.prog 267 #[.slice A (k + 1) c] w fun e w' => e = .returned (.tuple #[.slice none 0 0,.int .i64 (-4)]) ∧ Below w.heap.size w w':=by
  go_enter Tryz.func267,Tryz.ntmps267;(go_wp2_with fail);refine (numbered_out _ _ _ _ y _ hn hy HR HY).mono ?_;rintro e w1 ⟨rfl,bb⟩;(go_wp2_with fail);go_ret2;exact ⟨rfl,bb⟩
theorem rolled_out (A : Option Addr) (k c : Nat) (l : List Int) (y : Int) (w : World) (hn : k + 1 ≤ 65536) (hy : y < 0 ∨ (k : Int) ≤ y) (HR : Hid (Row w A (k + 1) c l)) (HY : Hid (l.getD k 0 = y)) :
    Calls Tryz.prog 268 #[.slice A (k + 1) c] w fun e w' => e = .returned (.tuple #[.slice none 0 0,.int .i64 (-4)]) ∧ Below w.heap.size w w':=by
  go_enter Tryz.func268,Tryz.ntmps268;(go_wp2_with fail);refine (numbered_out _ _ _ _ y _ hn hy HR HY).mono ?_;rintro e w1 ⟨rfl,bb⟩;(go_wp2_with fail);go_ret2;exact ⟨rfl,bb⟩
theorem take_getD {l : List Int} {k p : Nat} (h : p < k) : (l.take k).getD p 0 = l.getD p 0:=by
  simp [List.getD,List.getElem?_take,h]


theorem bytes_ne {s : ByteArray} {l : List UInt8} (h : ¬ s.data.toList = l) : ¬ Value.string ⟨l.toArray⟩ = Value.string s:=fun e => by
  injection e with e
  exact h (by rw [← e])
theorem str_no {s : ByteArray} {l : List UInt8} (h : ¬ s.data.toList = l) : (s.toList == l) = false:=by rw [ByteArray.toList_eq]; simpa using h
theorem keys_all : ∀ x ∈ textsE.toList,MapKept.IsKey .string x.key:=by
  intro x hx;have h : x ∈ textsT.zipIdx.map fun p => (⟨.string p.1.1,.string p.1.2,p.2⟩ : MapEntry):=by simpa [textsE] using hx
  rw [List.mem_map] at h;obtain ⟨p,_,rfl⟩:=h;simp [MapKept.IsKey]
theorem find_no (s : ByteArray) (e0 : ¬ s.data.toList = [68,85,80]) (e1 : ¬ s.data.toList = [68,82,79,80]) (e2 : ¬ s.data.toList = [83,87,65,80]) (e3 : ¬ s.data.toList = [79,86,69,82]) (e4 : ¬ s.data.toList = [78,73,80]) (e5 : ¬ s.data.toList = [84,85,67,75]) (e6 : ¬ s.data.toList = [82,79,84]) (e7 : ¬ s.data.toList = [45,82,79,84]) (e8 : ¬ s.data.toList = [50,68,85,80]) (e9 : ¬ s.data.toList = [50,68,82,79,80]) (e10 : ¬ s.data.toList = [50,83,87,65,80]) (e11 : ¬ s.data.toList = [50,79,86,69,82]) (e12 : ¬ s.data.toList = [63,68,85,80]) (e13 : ¬ s.data.toList = [68,69,80,84,72]) (e14 : ¬ s.data.toList = [80,73,67,75]) (e15 : ¬ s.data.toList = [82,79,76,76]) : Instr.findNow .string (.string s) textsE.toList 0 = some none:=by
  rcases MapKept.findNow_spec (d:=.string) (k:=.string s) (by simp [MapKept.IsKey]) textsE.toList 0 keys_all with ⟨h,_⟩ | ⟨j,e,_,h2,h3⟩
  · exact h
  · exfalso
    have hm : e ∈ textsE.toList:=List.mem_of_getElem? h2;have hx : ∃ p ∈ textsT,Value.string p.1 = .string s:=by
      have : e.key ∈ textsE.toList.map (·.key):=List.mem_map.2 ⟨e,hm,rfl⟩;rw [show textsE.toList.map (·.key) = textsT.map (fun p => Value.string p.1) by rfl,List.mem_map] at this;obtain ⟨p,hp,hk⟩:=this;exact ⟨p,hp,by rw [hk,h3]⟩
    obtain ⟨p,hp,hk⟩:=hx;simp only [textsT,List.mem_cons,List.not_mem_nil,or_false] at hp
    rcases hp with rfl | rfl | rfl | rfl | rfl | rfl | rfl | rfl | rfl | rfl | rfl | rfl
    · exact bytes_ne e0 hk
    · exact bytes_ne e1 hk
    · exact bytes_ne e2 hk
    · exact bytes_ne e3 hk
    · exact bytes_ne e4 hk
    · exact bytes_ne e5 hk
    · exact bytes_ne e6 hk
    · exact bytes_ne e7 hk
    · exact bytes_ne e8 hk
    · exact bytes_ne e9 hk
    · exact bytes_ne e10 hk
    · exact bytes_ne e11 hk


theorem tells_of (t a b : ByteArray) (k i : Nat) (idx : List Nat) (h1 : Cuts t a b i) (h2 : a.size = k) (h3 : b.data.toList.map (·.toNat) = idx.map (· + 97)) (h4 : idx.length ≤ 10) (h5 : ∀ i ∈ idx,i < k) (h6 : k ≤ 4) : TellsS t a b k idx:=by
  have hl : b.size = idx.length:=by
    have:=congrArg List.length h3;simpa using this
  refine ⟨⟨i,h1⟩,h2,hl,h4,fun j h x hx => ?_,fun j x hx => h5 x (List.mem_of_getElem? hx),h6⟩;have e1 : (b.data.toList.map (·.toNat))[j]? = some (b[j].toNat):=by
    rw [List.getElem?_map];have : b.data.toList[j]? = some b[j]:=by
      rw [Array.getElem?_toList];exact Array.getElem?_eq_getElem h
    rw [this];rfl
  rw [h3,List.getElem?_map,hx] at e1;simpa using e1.symm
def codeT : Res → Int
  | .no => 0
  | .under => -4
  | .out _ => 0
def outT : Res → List Int
  | .no => []
  | .under => []
  | .out o => o
theorem pick_yes {l : List Int} {p y : Nat} (h1 : l.length = p + 1 + y + 1) (h2 : numOk l = true) (h3 : placeF l = p) : resF .pick l = .out (l.take (p + 1 + y) ++ [l.getD p 0]):=by
  simp only [resF,h2,if_true,h3,h1];rfl
theorem roll_yes {l : List Int} {p y : Nat} (h1 : l.length = p + 1 + y + 1) (h2 : numOk l = true) (h3 : placeF l = p) : resF .roll l = .out ((l.take p ++ (l.take (p + 1 + y)).drop (p + 1)) ++ [l.getD p 0]):=by
  simp only [resF,h2,if_true,h3,h1];rfl
theorem pick_no {l : List Int} (h : numOk l = false) : resF .pick l = .under:=by simp [resF,h]
theorem roll_no {l : List Int} (h : numOk l = false) : resF .roll l = .under:=by simp [resF,h]
theorem tells_DUP : TellsS ⟨#[97,32,97,97]⟩ ⟨#[97]⟩ ⟨#[97,97]⟩ 1 [0,0]:=tells_of _ _ _ 1 1 [0,0] ⟨by kernel_rfl,by kernel_rfl,by kernel_rfl,by decide,by decide,by kernel_rfl⟩ rfl rfl (by decide) (by decide) (by decide)
theorem tells_DROP : TellsS ⟨#[97,32]⟩ ⟨#[97]⟩ ⟨#[]⟩ 1 []:=tells_of _ _ _ 1 1 [] ⟨by kernel_rfl,by kernel_rfl,by kernel_rfl,by decide,by decide,by kernel_rfl⟩ rfl rfl (by decide) (by decide) (by decide)
theorem tells_SWAP : TellsS ⟨#[97,98,32,98,97]⟩ ⟨#[97,98]⟩ ⟨#[98,97]⟩ 2 [1,0]:=tells_of _ _ _ 2 2 [1,0] ⟨by kernel_rfl,by kernel_rfl,by kernel_rfl,by decide,by decide,by kernel_rfl⟩ rfl rfl (by decide) (by decide) (by decide)
theorem tells_OVER : TellsS ⟨#[97,98,32,97,98,97]⟩ ⟨#[97,98]⟩ ⟨#[97,98,97]⟩ 2 [0,1,0]:=tells_of _ _ _ 2 2 [0,1,0] ⟨by kernel_rfl,by kernel_rfl,by kernel_rfl,by decide,by decide,by kernel_rfl⟩ rfl rfl (by decide) (by decide) (by decide)
theorem tells_NIP : TellsS ⟨#[97,98,32,98]⟩ ⟨#[97,98]⟩ ⟨#[98]⟩ 2 [1]:=tells_of _ _ _ 2 2 [1] ⟨by kernel_rfl,by kernel_rfl,by kernel_rfl,by decide,by decide,by kernel_rfl⟩ rfl rfl (by decide) (by decide) (by decide)
theorem tells_TUCK : TellsS ⟨#[97,98,32,98,97,98]⟩ ⟨#[97,98]⟩ ⟨#[98,97,98]⟩ 2 [1,0,1]:=tells_of _ _ _ 2 2 [1,0,1] ⟨by kernel_rfl,by kernel_rfl,by kernel_rfl,by decide,by decide,by kernel_rfl⟩ rfl rfl (by decide) (by decide) (by decide)
theorem tells_ROT : TellsS ⟨#[97,98,99,32,98,99,97]⟩ ⟨#[97,98,99]⟩ ⟨#[98,99,97]⟩ 3 [1,2,0]:=tells_of _ _ _ 3 3 [1,2,0] ⟨by kernel_rfl,by kernel_rfl,by kernel_rfl,by decide,by decide,by kernel_rfl⟩ rfl rfl (by decide) (by decide) (by decide)
theorem tells_mROT : TellsS ⟨#[97,98,99,32,99,97,98]⟩ ⟨#[97,98,99]⟩ ⟨#[99,97,98]⟩ 3 [2,0,1]:=tells_of _ _ _ 3 3 [2,0,1] ⟨by kernel_rfl,by kernel_rfl,by kernel_rfl,by decide,by decide,by kernel_rfl⟩ rfl rfl (by decide) (by decide) (by decide)
theorem tells_2DUP : TellsS ⟨#[97,98,32,97,98,97,98]⟩ ⟨#[97,98]⟩ ⟨#[97,98,97,98]⟩ 2 [0,1,0,1]:=tells_of _ _ _ 2 2 [0,1,0,1] ⟨by kernel_rfl,by kernel_rfl,by kernel_rfl,by decide,by decide,by kernel_rfl⟩ rfl rfl (by decide) (by decide) (by decide)
theorem tells_2DROP : TellsS ⟨#[97,98,32]⟩ ⟨#[97,98]⟩ ⟨#[]⟩ 2 []:=tells_of _ _ _ 2 2 [] ⟨by kernel_rfl,by kernel_rfl,by kernel_rfl,by decide,by decide,by kernel_rfl⟩ rfl rfl (by decide) (by decide) (by decide)
theorem tells_2SWAP : TellsS ⟨#[97,98,99,100,32,99,100,97,98]⟩ ⟨#[97,98,99,100]⟩ ⟨#[99,100,97,98]⟩ 4 [2,3,0,1]:=tells_of _ _ _ 4 4 [2,3,0,1] ⟨by kernel_rfl,by kernel_rfl,by kernel_rfl,by decide,by decide,by kernel_rfl⟩ rfl rfl (by decide) (by decide) (by decide)
theorem tells_2OVER : TellsS ⟨#[97,98,99,100,32,97,98,99,100,97,98]⟩ ⟨#[97,98,99,100]⟩ ⟨#[97,98,99,100,97,98]⟩ 4 [0,1,2,3,0,1]:=tells_of _ _ _ 4 4 [0,1,2,3,0,1] ⟨by kernel_rfl,by kernel_rfl,by kernel_rfl,by decide,by decide,by kernel_rfl⟩ rfl rfl (by decide) (by decide) (by decide)


theorem Owns.keep {w w' : World} {base n : Nat} {v : Value} {l : List Int} (h : Owns w base v n l) (b : Below w.heap.size w w') : Owns w' base v n l:=by
  refine h.other fun g hg => ?_
  rcases h.2 with ⟨rfl,_⟩ | ⟨g',cap,cur,rfl,_,hh,_⟩
  · simp [Value.ownBlock] at hg
  · injection hg with hg
    simp at hg;subst hg;exact b.block _ (Array.getElem?_eq_some_iff.1 hh).1


theorem Row.at_ {w : World} {g o n c : Nat} {l : List Int} (h : Row w (some ⟨g,o,none⟩) n c l) (hn : 0 < n) : g < w.heap.size ∧ ∀ j,j < n → w.cell? ⟨g,o + j,none⟩ = some (.int .i64 (l.getD j 0)):=by
  obtain ⟨g',o',e,hg,hc⟩:=h.cells hn;injection e with e
  injection e with e1 e2
  subst e1 e2;exact ⟨hg,hc⟩


theorem Row.len {w : World} {A : Option Addr} {n c : Nat} {l : List Int} (h : Row w A n c l) : l.length = n:=h.1


def NewA (B : Nat) (A' : Option Addr) (n' : Nat) (A : Option Addr) (n : Nat) : Prop:=(A' = A ∧ n' = n) ∨ ∀ q,A' = some q → B ≤ q.block
theorem NewA.refl (B : Nat) (A : Option Addr) (n : Nat) : NewA B A n A n:=.inl ⟨rfl,rfl⟩
theorem NewA.le {B B' n' n : Nat} {A' A : Option Addr} (h : NewA B A' n' A n) (hb : B' ≤ B) : NewA B' A' n' A n:=h.imp (fun x => x) fun h q e => Nat.le_trans hb (h q e)
theorem NewA.trans {B n'' n' n : Nat} {A'' A' A : Option Addr} (h : NewA B A'' n'' A' n') (g : NewA B A' n' A n) : NewA B A'' n'' A n:=by
  rcases h with ⟨rfl,rfl⟩ | h
  · exact g
  · exact .inr h
def MemP (P : Option Addr) (K : Nat) (B : Nat) (w : World) (v : Value) (m : PM) : Prop:=IsMem w v m ∧ ∀ b P' K' d',v = .agg #[b,.slice P' K' d'] → NewA B P' K' P K
theorem MemP.le {P : Option Addr} {K B B' : Nat} {w : World} {v : Value} {m : PM} (h : MemP P K B w v m) (hb : B' ≤ B) : MemP P K B' w v m:=⟨h.1,fun b P' K' d' e => (h.2 b P' K' d' e).le hb⟩
theorem MemP.keep {P : Option Addr} {K B : Nat} {w w' : World} {v : Value} {m : PM} (h : MemP P K B w v m) (b : Below w.heap.size w w') : MemP P K B w' v m:=⟨h.1.keep b,h.2⟩
theorem MemP.row2 {P Pb A : Option Addr} {K B B' b n c k d : Nat} {t : TypeId} {w w' : World} {v : Value} {m : PM} (h : MemP P K B w v m) (hb : B' ≤ B) (hx : Box w b (.slice A n c) (.slice Pb k d) t) (rs : RowSet b w w') : MemP P K B' w' v m:=⟨h.1.row hx rs,(h.le hb).2⟩
theorem memP_same {P : Option Addr} {B K d : Nat} {w : World} {x : Value} {m : PM} (h : IsMem w (.agg #[x,.slice P K d]) m) : MemP P K B w (.agg #[x,.slice P K d]) m:=⟨h,fun b P' K' d' e => by
  injection e with e
  simp at e;obtain ⟨_,e,e2,_⟩:=e
  exact .inl ⟨e.symm,e2.symm⟩⟩
theorem memP_new {P : Option Addr} {K0 B g o K d : Nat} {w : World} {x : Value} {m : PM} (h : IsMem w (.agg #[x,.slice (some ⟨g,o,none⟩) K d]) m) (hg : B ≤ g) : MemP P K0 B w (.agg #[x,.slice (some ⟨g,o,none⟩) K d]) m:=⟨h,fun b P' K' d' e => by
  injection e with e
  simp at e;obtain ⟨_,e,_⟩:=e;exact .inr fun q hq => by
    rw [← e] at hq;injection hq with hq
    rw [← hq]
    exact hg⟩
end Go.Proofs.YtcmldhjicjmmgaaGreatDoor
