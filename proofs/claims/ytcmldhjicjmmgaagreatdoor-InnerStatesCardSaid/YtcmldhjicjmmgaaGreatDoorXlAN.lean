/- Part 14. -/
import Derived.Test.YtcmldhjicjmmgaaGreatDoorXlAM
import Derived.Laws.Externs
import Derived.ChangeMaps5
import Derived.MapKept
import Derived.Carry
set_option linter.unusedVariables false
set_option linter.unusedSimpArgs false
set_option maxRecDepth 100000
set_option maxHeartbeats 4000000

namespace Go.Proofs.YtcmldhjicjmmgaaGreatDoor
open Go.RowKit


theorem asked2_LtGt (a b : Int) (w : World) :
    Calls Tryz.prog 216 #[.string ⟨#[60,62]⟩,.int .i64 a,.int .i64 b] w fun e w' => e = .returned (.tuple #[.int .i64 (yes (a != b)),.bool true]) ∧ Below w.heap.size w w':=by
  go_enter Tryz.func216,Tryz.ntmps216;(go_wp2_with fail);refine (teller_any _ _ _).mono ?_;rintro e w1 ⟨p,q,rfl,hp,hq,hpq,b1⟩;(go_wp2_with fail);refine (teller_any _ _ _).mono ?_;rintro e w2 ⟨p2,q2,rfl,hp2,hq2,hpq2,b2⟩;(go_wp2_with fail);(go_wp2_with (first | (go_at_call 227; ((with_reducible refine (uless_anyA _ _ _).mono ?_); rintro e w3 ⟨rfl,rfl⟩)) | (go_at_call 290; ((with_reducible refine (tell_any _ _ _ _ _ _ (by assumption) (by assumption)).mono ?_); rintro e w4 ⟨rfl,rfl⟩))));go_ret2;exact ⟨ret_ibA (by first | rfl | exact tell_not _) rfl,below_thenA b1 b2⟩
theorem asked2_Eq (a b : Int) (w : World) :
    Calls Tryz.prog 216 #[.string ⟨#[61]⟩,.int .i64 a,.int .i64 b] w fun e w' => e = .returned (.tuple #[.int .i64 (yes (a == b)),.bool true]) ∧ Below w.heap.size w w':=by
  go_enter Tryz.func216,Tryz.ntmps216;(go_wp2_with fail);refine (teller_any _ _ _).mono ?_;rintro e w1 ⟨p,q,rfl,hp,hq,hpq,b1⟩;(go_wp2_with fail);(go_wp2_with (first | (go_at_call 227; ((with_reducible refine (uless_anyA _ _ _).mono ?_); rintro e w3 ⟨rfl,rfl⟩)) | (go_at_call 290; ((with_reducible refine (tell_any _ _ _ _ _ _ (by assumption) (by assumption)).mono ?_); rintro e w4 ⟨rfl,rfl⟩))));go_ret2;exact ⟨ret_ibA (by first | rfl | exact tell_not _) rfl,b1⟩
theorem asked2_Gt (a b : Int) (w : World) :
    Calls Tryz.prog 216 #[.string ⟨#[62]⟩,.int .i64 a,.int .i64 b] w fun e w' => e = .returned (.tuple #[.int .i64 (yes (decide (b < a))),.bool true]) ∧ Below w.heap.size w w':=by
  go_enter Tryz.func216,Tryz.ntmps216;(go_wp2_with fail);refine (teller_any _ _ _).mono ?_;rintro e w1 ⟨p,q,rfl,hp,hq,hpq,b1⟩;(go_wp2_with fail);(go_wp2_with (first | (go_at_call 227; ((with_reducible refine (uless_anyA _ _ _).mono ?_); rintro e w3 ⟨rfl,rfl⟩)) | (go_at_call 290; ((with_reducible refine (tell_any _ _ _ _ _ _ (by assumption) (by assumption)).mono ?_); rintro e w4 ⟨rfl,rfl⟩))));go_ret2;exact ⟨ret_ibA (by first | rfl | exact tell_not _) rfl,b1⟩
theorem asked2_Lt (a b : Int) (w : World) :
    Calls Tryz.prog 216 #[.string ⟨#[60]⟩,.int .i64 a,.int .i64 b] w fun e w' => e = .returned (.tuple #[.int .i64 (yes (decide (a < b))),.bool true]) ∧ Below w.heap.size w w':=by
  go_enter Tryz.func216,Tryz.ntmps216;(go_wp2_with fail);refine (teller_any _ _ _).mono ?_;rintro e w1 ⟨p,q,rfl,hp,hq,hpq,b1⟩;(go_wp2_with fail);(go_wp2_with (first | (go_at_call 227; ((with_reducible refine (uless_anyA _ _ _).mono ?_); rintro e w3 ⟨rfl,rfl⟩)) | (go_at_call 290; ((with_reducible refine (tell_any _ _ _ _ _ _ (by assumption) (by assumption)).mono ?_); rintro e w4 ⟨rfl,rfl⟩))));go_ret2;exact ⟨ret_ibA (by first | rfl | exact tell_not _) rfl,b1⟩
theorem asked2_GtEq (a b : Int) (w : World) :
    Calls Tryz.prog 216 #[.string ⟨#[62,61]⟩,.int .i64 a,.int .i64 b] w fun e w' => e = .returned (.tuple #[.int .i64 (yes (decide (b ≤ a))),.bool true]) ∧ Below w.heap.size w w':=by
  go_enter Tryz.func216,Tryz.ntmps216;(go_wp2_with fail);refine (teller_any _ _ _).mono ?_;rintro e w1 ⟨p,q,rfl,hp,hq,hpq,b1⟩;(go_wp2_with fail);(go_wp2_with (first | (go_at_call 227; ((with_reducible refine (uless_anyA _ _ _).mono ?_); rintro e w3 ⟨rfl,rfl⟩)) | (go_at_call 290; ((with_reducible refine (tell_any _ _ _ _ _ _ (by assumption) (by assumption)).mono ?_); rintro e w4 ⟨rfl,rfl⟩))));go_ret2;exact ⟨ret_ibA (by first | rfl | exact tell_not _) rfl,b1⟩
theorem asked2_LtEq (a b : Int) (w : World) :
    Calls Tryz.prog 216 #[.string ⟨#[60,61]⟩,.int .i64 a,.int .i64 b] w fun e w' => e = .returned (.tuple #[.int .i64 (yes (decide (a ≤ b))),.bool true]) ∧ Below w.heap.size w w':=by
  go_enter Tryz.func216,Tryz.ntmps216;(go_wp2_with fail);refine (teller_any _ _ _).mono ?_;rintro e w1 ⟨p,q,rfl,hp,hq,hpq,b1⟩;(go_wp2_with fail);(go_wp2_with (first | (go_at_call 227; ((with_reducible refine (uless_anyA _ _ _).mono ?_); rintro e w3 ⟨rfl,rfl⟩)) | (go_at_call 290; ((with_reducible refine (tell_any _ _ _ _ _ _ (by assumption) (by assumption)).mono ?_); rintro e w4 ⟨rfl,rfl⟩))));go_ret2;exact ⟨ret_ibA (by first | rfl | exact tell_not _) rfl,b1⟩
theorem asked2_UGt (a b : Int) (w : World) :
    Calls Tryz.prog 216 #[.string ⟨#[85,62]⟩,.int .i64 a,.int .i64 b] w fun e w' => e = .returned (.tuple #[.int .i64 (yes (decide (un b < un a))),.bool true]) ∧ Below w.heap.size w w':=by
  go_enter Tryz.func216,Tryz.ntmps216;(go_wp2_with fail);refine (teller_any _ _ _).mono ?_;rintro e w1 ⟨p,q,rfl,hp,hq,hpq,b1⟩;(go_wp2_with fail);(go_wp2_with (first | (go_at_call 227; ((with_reducible refine (uless_anyA _ _ _).mono ?_); rintro e w3 ⟨rfl,rfl⟩)) | (go_at_call 290; ((with_reducible refine (tell_any _ _ _ _ _ _ (by assumption) (by assumption)).mono ?_); rintro e w4 ⟨rfl,rfl⟩))));go_ret2;exact ⟨ret_ibA (by first | rfl | exact tell_not _) rfl,b1⟩
theorem asked2_ULt (a b : Int) (w : World) :
    Calls Tryz.prog 216 #[.string ⟨#[85,60]⟩,.int .i64 a,.int .i64 b] w fun e w' => e = .returned (.tuple #[.int .i64 (yes (decide (un a < un b))),.bool true]) ∧ Below w.heap.size w w':=by
  go_enter Tryz.func216,Tryz.ntmps216;(go_wp2_with fail);refine (teller_any _ _ _).mono ?_;rintro e w1 ⟨p,q,rfl,hp,hq,hpq,b1⟩;(go_wp2_with fail);(go_wp2_with (first | (go_at_call 227; ((with_reducible refine (uless_anyA _ _ _).mono ?_); rintro e w3 ⟨rfl,rfl⟩)) | (go_at_call 290; ((with_reducible refine (tell_any _ _ _ _ _ _ (by assumption) (by assumption)).mono ?_); rintro e w4 ⟨rfl,rfl⟩))));go_ret2;exact ⟨ret_ibA (by first | rfl | exact tell_not _) rfl,b1⟩
theorem asked2_none (s : ByteArray) (a b : Int) (w : World) (h0 : (s.toList == [60,62]) = false) (h1 : (s.toList == [61]) = false) (h2 : (s.toList == [62]) = false) (h3 : (s.toList == [60]) = false) (h4 : (s.toList == [62,61]) = false) (h5 : (s.toList == [60,61]) = false) (h6 : (s.toList == [85,62]) = false) (h7 : (s.toList == [85,60]) = false) :
    Calls Tryz.prog 216 #[.string s,.int .i64 a,.int .i64 b] w fun e w' => e = .returned (.tuple #[.int .i64 0,.bool false]) ∧ Below w.heap.size w w':=by
  go_enter Tryz.func216,Tryz.ntmps216;(go_wp2_with fail);refine (teller_any _ _ _).mono ?_;rintro e w1 ⟨p,q,rfl,hp,hq,hpq,b1⟩;go_wp2;go_ret2;exact ⟨ret_ibA rfl rfl,b1⟩
theorem asked2_any (s : ByteArray) (a b : Int) (w : World) :
    Calls Tryz.prog 216 #[.string s,.int .i64 a,.int .i64 b] w fun e w' => e = .returned (.tuple #[.int .i64 ((asked2F s.data.toList a b).getD 0),.bool (asked2F s.data.toList a b).isSome]) ∧ Below w.heap.size w w':=by
  by_cases h0 : s.data.toList = [60,62]
  · obtain rfl:=str_of h0
    exact asked2_LtGt a b w
  by_cases h1 : s.data.toList = [61]
  · obtain rfl:=str_of h1
    exact asked2_Eq a b w
  by_cases h2 : s.data.toList = [62]
  · obtain rfl:=str_of h2
    exact asked2_Gt a b w
  by_cases h3 : s.data.toList = [60]
  · obtain rfl:=str_of h3
    exact asked2_Lt a b w
  by_cases h4 : s.data.toList = [62,61]
  · obtain rfl:=str_of h4
    exact asked2_GtEq a b w
  by_cases h5 : s.data.toList = [60,61]
  · obtain rfl:=str_of h5
    exact asked2_LtEq a b w
  by_cases h6 : s.data.toList = [85,62]
  · obtain rfl:=str_of h6
    exact asked2_UGt a b w
  by_cases h7 : s.data.toList = [85,60]
  · obtain rfl:=str_of h7
    exact asked2_ULt a b w
  have e : asked2F s.data.toList a b = none:=by simp only [asked2F,h0,h1,h2,h3,h4,h5,h6,h7,if_false]
  rw [e];exact asked2_none s a b w (str_noA h0) (str_noA h1) (str_noA h2) (str_noA h3) (str_noA h4) (str_noA h5) (str_noA h6) (str_noA h7)
theorem div_code {l : List UInt8} {a b : Int} (h : divF l a b = none) : divC l b = 0:=by
  unfold divF at h;unfold divC
  split at h
  · cases h
  · split at h
    · cases h
    · rename_i h1 h2
      simp only [h1,h2,or_self,if_false]
theorem two_any (s : ByteArray) (a b : Int) (w : World) (ha : cellR a) (hb : cellR b) :
    Calls Tryz.prog 123 #[.string s,.int .i64 a,.int .i64 b] w fun e w' => e = .returned (.tuple #[.int .i64 ((twoF s.data.toList a b).getD 0),.bool (twoF s.data.toList a b).isSome,.int .i64 (divC s.data.toList b)]) ∧ Below w.heap.size w w':=by
  have c1:=fun w => divided_any s a b w ha hb
  have c2:=fun w => joined_any s a b w
  have c3:=fun w => asked2_any s a b w
  cases h : divF s.data.toList a b with
  | some n =>
    have e : twoF s.data.toList a b = some n:=by rw [twoF,h]; rfl
    rw [e];rw [h] at c1;have C1:=zqh c1;clear c1 c2 c3 e h;go_enter Tryz.func123,Tryz.ntmps123;(go_wp2_with (go_at_call 214; ((refine (C1.out _).mono ?_); rintro e w1 ⟨rfl,b1⟩)))
    go_ret3
    exact ⟨ret_ibi rfl rfl rfl,b1⟩
  | none =>
    have hc:=div_code h;rw [h,hc] at c1;rw [hc];have C1:=zqh c1;cases g : joinedF s.data.toList a b with
    | some n =>
      have e : twoF s.data.toList a b = some n:=by rw [twoF,h,g]; rfl
      rw [e];rw [g] at c2;have C2:=zqh c2;clear c1 c2 c3 e h g hc;go_enter Tryz.func123,Tryz.ntmps123;(go_wp2_with (first | (go_at_call 214; ((refine (C1.out _).mono ?_); rintro e w1 ⟨rfl,b1⟩)) | (go_at_call 215; ((refine (C2.out _).mono ?_); rintro e w2 ⟨rfl,rfl⟩))))
      go_ret3
      exact ⟨ret_ibi rfl rfl rfl,b1⟩
    | none =>
      have e : twoF s.data.toList a b = asked2F s.data.toList a b:=by rw [twoF,h,g]; rfl
      rw [e];rw [g] at c2;have C2:=zqh c2;have C3:=zqh c3;clear c1 c2 c3 e h g hc;go_enter Tryz.func123,Tryz.ntmps123;(go_wp2_with (first | (go_at_call 214; ((refine (C1.out _).mono ?_); rintro e w1 ⟨rfl,b1⟩)) | (go_at_call 215; ((refine (C2.out _).mono ?_); rintro e w2 ⟨rfl,rfl⟩)) | (go_at_call 216; ((refine (C3.out _).mono ?_); rintro e w3 ⟨rfl,b3⟩))))
      go_ret3
      exact ⟨ret_ibi rfl rfl rfl,below_thenA b1 b3⟩


def withinB (x lo hi : Int) : Bool:=decide (un (wrap64 (x - lo)) < un (wrap64 (hi - lo)))


structure Cuts (s a b : ByteArray) (i : Nat) : Prop where
  find : firstIdx s 32 = (i : Int)
  left : s.extract 0 i = a
  right : s.extract (i + 1) s.size = b
  lt : i < s.size
  most : s.size ≤ 100
  not : ([32] == s.toList) = false
theorem ixb_run (s : ByteArray) (i : Nat) (h : firstIdx s 32 = (i : Int)) (w : World) :
    (callFunc 309 #[.string s,.int .u8 32]).run Tryz.prog w = .ok (.value (.int .i64 (i : Int))) w:=by
  rw [run_callFunc_extern Tryz.func309 (by kernel_rfl) (by kernel_rfl) (by kernel_rfl) (e:=Extern.BytealgIndexByte.indexByte) (by kernel_rfl)];rw [run_indexByte_string,show (32 : Int).toNat.toUInt8 = 32 from rfl,h];rfl
theorem ixb_any (s : ByteArray) (i : Nat) (w : World) (h : Hid (firstIdx s 32 = (i : Int))) :
    Calls Tryz.prog 305 #[.string s,.int .u8 32] w fun e w' => e = .returned (.int .i64 (i : Int)) ∧ w = w':=by
  have hr:=ixb_run s i h.out;go_enter Tryz.func305,Tryz.ntmps305;go_wp2;go_ret;exact ⟨rfl,rfl⟩
theorem index_any (s : ByteArray) (i : Nat) (w : World) (h : Hid (firstIdx s 32 = (i : Int))) (hn : ([32] == s.toList) = false) :
    Calls Tryz.prog 304 #[.string s,.string ⟨#[32]⟩] w fun e w' => e = .returned (.int .i64 (i : Int)) ∧ w = w':=by
  go_enter Tryz.func304,Tryz.ntmps304;(go_wp2_with (go_at_call 305; ((refine (ixb_any s i _ h).mono ?_); rintro e w' ⟨rfl,rfl⟩)));go_ret;exact ⟨rfl,rfl⟩
theorem cut_lite (s a b : ByteArray) (i : Nat) (w : World) (h : Hid (Cuts s a b i)) :
    Calls Tryz.prog 300 #[.string s,.string ⟨#[32]⟩] w fun e w' => e = .returned (.tuple #[.string a,.string b,.bool true]) ∧ Below w.heap.size w w':=by
  have h1:=h.out.left;have h2:=h.out.right;have h3:=h.out.not;have h4 : (i : Int) < (s.size : Int):=by have:=h.out.lt; omega
  have h5 : (i : Int) + 1 ≤ (s.size : Int):=by omega
  have h6 : (s.size : Int) ≤ 100:=by have:=h.out.most; omega
  have h7 : IntKind.i64.wrap ((i : Int) + 1) = (i : Int) + 1:=IntWalk.i64_in _ (by omega);have h8 : ((i : Int) + 1).toNat = i + 1:=by omega
  have h9 : (0 : Int) ≤ (i : Int) + 1:=by omega
  have H3:=zqh h3;have HF:=zqh h.out.find;clear h3;go_enter Tryz.func300,Tryz.ntmps300;(go_wp2_with (go_at_call 304; ((with_reducible refine (index_any s i _ HF H3.out).mono ?_); rintro e w' ⟨rfl,rfl⟩)))
  go_quiet (fail)
  go_wp2
  go_ret3
  exact ⟨rfl,Go.Joins.below_draws _ _ _⟩
theorem cut_any (s a b : ByteArray) (i : Nat) (w : World) (h : Hid (Cuts s a b i)) :
    Calls Tryz.prog 288 #[.string s,.string ⟨#[32]⟩] w fun e w' => e = .returned (.tuple #[.string a,.string b,.bool true]) ∧ Below w.heap.size w w':=by
  go_enter Tryz.func288,Tryz.ntmps288;(go_wp2_with (go_at_call 300; ((with_reducible refine (cut_lite s a b i _ h).mono ?_); rintro e w' ⟨rfl,bb⟩)))
  go_ret3
  exact ⟨rfl,bb⟩
open Go.RowKit Go.ChangeMaps


theorem run_insert {w : World} {b : Nat} {es : Array MapEntry} {clock : Nat} (hb : w.heap[b]? = some (.map es clock)) (k v : ByteArray) (hn : Instr.findNow .string (.string k) es.toList 0 = some none) :
    ∃ w',(Instr.mapUpdate 282 (.map (some b)) (.string k) (.string v)).run Tryz.prog w = .ok () w' ∧ w'.heap[b]? = some (.map (es.push ⟨.string k,.string v,clock⟩) (clock + 1)) ∧ w.grownBy w' (some b):=by
  refine ⟨setBlock w b (.map (es.push ⟨.string k,.string v,clock⟩) (clock + 1)),?_,heap_setBlock_same hb _,⟨rfl,rfl,rfl,by simp [setBlock],fun i _ hi => heap_setBlock_other hb _ (fun e => hi (by rw [e]))⟩⟩;have hc : (Instr.checkKey false 10000 9 (.string k)).run Tryz.prog w = .ok () w:=MapKept.run_checkKey (n:=9999) Tryz.underlying9 (by simp [MapKept.IsKey]) false;have hf:=MapKept.run_findKey (P:=Tryz.prog) (w:=w) Tryz.underlying9 hn;simp [Instr.mapUpdate,run_underlying Tryz.underlying282,MapKept.run_getObj_map hb,hc,hf,MapKept.run_setObj_map _ hb,Result.andThen,setBlock]
theorem run_look {w : World} {b : Nat} {es : Array MapEntry} {clock : Nat} (hb : w.heap[b]? = some (.map es clock)) (k : ByteArray) {r : Option (Nat × Value)} (hn : Instr.findNow .string (.string k) es.toList 0 = some r) :
    (Instr.lookup 282 (.map (some b)) (.string k) true).run Tryz.prog w = .ok (match r with | some (_,v) => .tuple #[v,.bool true] | none => .tuple #[.string ByteArray.empty,.bool false]) w:=by
  have hc : ∀ e : Bool,(Instr.checkKey e 10000 9 (.string k)).run Tryz.prog w = .ok () w:=fun e => MapKept.run_checkKey (n:=9999) Tryz.underlying9 (by simp [MapKept.IsKey]) e
  have hf:=MapKept.run_findKey (P:=Tryz.prog) (w:=w) Tryz.underlying9 hn;have hz : (zeroValue 9).run Tryz.prog w = .ok (.string ByteArray.empty) w:=by kernel_rfl
  cases r with
  | none => simp [Instr.lookup,run_underlying Tryz.underlying282,MapKept.run_getObj_map hb,hc,hf,hz,Result.andThen]
  | some x => simp [Instr.lookup,run_underlying Tryz.underlying282,MapKept.run_getObj_map hb,hc,hf,hz,Result.andThen]
theorem wpList_insert {ops : Array Oper} {rest : List Oper} {o : Oper} {a : Act} {Q : Exit → Act → World → Prop} {w : World} (hg : o.guard = none) (m x v : Operand) (hop : o.op = Op.insert 282 m x v)
    (b : Nat) (es : Array MapEntry) (clock : Nat) (k u : ByteArray) (hm : a.eval m = .map (some b)) (hx : a.eval x = .string k) (hv : a.eval v = .string u) (hb : w.heap[b]? = some (.map es clock)) (hn : Instr.findNow .string (.string k) es.toList 0 = some none)
    (hK : ∀ w',w'.heap[b]? = some (.map (es.push ⟨.string k,.string u,clock⟩) (clock + 1)) → w.grownBy w' (some b) → wpList Tryz.prog ops Q rest (a.put o.dst undef) w') :
    wpList Tryz.prog ops Q (o :: rest) a w:=by
  refine wpList_plain hg fun K' hK' => ?_
  obtain ⟨w',hrun,r1,r2⟩:=run_insert hb k u hn;unfold Oper.wp;simp [execOp,hop,hm,hx,hv,hrun,Result.andThen];exact hK' _ _ (hK w' r1 r2)
def textsT : List (ByteArray × ByteArray):=[(⟨#[68,85,80]⟩,⟨#[97,32,97,97]⟩),(⟨#[68,82,79,80]⟩,⟨#[97,32]⟩),(⟨#[83,87,65,80]⟩,⟨#[97,98,32,98,97]⟩),(⟨#[79,86,69,82]⟩,⟨#[97,98,32,97,98,97]⟩),(⟨#[78,73,80]⟩,⟨#[97,98,32,98]⟩),(⟨#[84,85,67,75]⟩,⟨#[97,98,32,98,97,98]⟩),(⟨#[82,79,84]⟩,⟨#[97,98,99,32,98,99,97]⟩),(⟨#[45,82,79,84]⟩,⟨#[97,98,99,32,99,97,98]⟩),(⟨#[50,68,85,80]⟩,⟨#[97,98,32,97,98,97,98]⟩),(⟨#[50,68,82,79,80]⟩,⟨#[97,98,32]⟩),(⟨#[50,83,87,65,80]⟩,⟨#[97,98,99,100,32,99,100,97,98]⟩),(⟨#[50,79,86,69,82]⟩,⟨#[97,98,99,100,32,97,98,99,100,97,98]⟩)]
def textsE : Array MapEntry:=(textsT.zipIdx.map fun p => (⟨.string p.1.1,.string p.1.2,p.2⟩ : MapEntry)).toArray
theorem texts_any (w : World) :
    Calls Tryz.prog 264 #[] w fun e w' => e = .returned (.map (some w.heap.size)) ∧ w'.heap[w.heap.size]? = some (.map textsE 12) ∧ Below w.heap.size w w':=by
  have hmm:=@run_makeMap Tryz.prog;have HM : Hid ((w.alloc (.map #[] 0)).heap[w.heap.size]? = some (.map #[] 0)):=heap_alloc_new w _;have HB : Hid (Below w.heap.size w (w.alloc (.map #[] 0))):=zqh (below_one _ _);go_enter Tryz.func264,Tryz.ntmps264;(go_wp2_with (refine wpList_insert rfl _ _ _ rfl _ _ _ _ _ rfl rfl rfl HM.out (by kernel_rfl) ?_; intro w1 hm hg; have HM1:=zqh hm; have HB1:=zqh (HB.out.grown hg HB.out.size (fun k hk => by cases hk; exact Nat.le_refl _)); clear HM HB hm hg; have HM:=HM1; have HB:=HB1; clear HM1 HB1));go_ret;exact ⟨rfl,HM.out,HB.out⟩
structure TellsS (t a b : ByteArray) (k : Nat) (idx : List Nat) : Prop where
  cuts : ∃ i,Cuts t a b i
  takes : a.size = k
  leaves : b.size = idx.length
  few : idx.length ≤ 10
  sign : ∀ (j : Nat) (h : j < b.size) (i : Nat),idx[j]? = some i → (b[j]'h).toNat = i + 97
  most : ∀ (j i : Nat),idx[j]? = some i → i < k
  four : k ≤ 4
def leftL (l : List Int) (low : Nat) (idx : List Nat) : List Int:=l.take low ++ idx.map fun i => l.getD (low + i) 0
theorem leftL_step {l : List Int} {low j i : Nat} {idx : List Nat} (h : idx[j]? = some i) : leftL l low (idx.take (j + 1)) = leftL l low (idx.take j) ++ [l.getD (low + i) 0]:=by
  unfold leftL;have hj:=(List.getElem?_eq_some_iff.1 h);rw [List.take_succ_eq_append_getElem hj.1,List.map_append,← List.append_assoc,hj.2];rfl
theorem Owns.other {w w' : World} {base n : Nat} {v : Value} {l : List Int} (h : Owns w base v n l) (hk : ∀ g,v.ownBlock = some g → w'.heap[g]? = w.heap[g]?) : Owns w' base v n l:=by
  refine ⟨h.1,?_⟩
  rcases h.2 with h | ⟨g,cap,cur,rfl,hb,hg,hr⟩
  · exact .inl h
  · exact .inr ⟨g,cap,cur,rfl,hb,(hk g rfl).trans hg,hr⟩
theorem Owns.noIter {w : World} {base n q p : Nat} {v : Value} {l : List Int} {s : ByteArray} (h : Owns w base v n l) (hq : w.heap[q]? = some (.stringIter s p)) : v.ownBlock ≠ some q:=by
  rcases h.2 with ⟨rfl,_⟩ | ⟨g,cap,cur,rfl,hb,hg,hr⟩
  · simp [Value.ownBlock]
  · intro e
    injection e with e
    simp at e;rw [e,hq] at hg;cases hg
theorem wpList_app_g {ops : Array Oper} {rest : List Oper} {o : Oper} {a : Act} {Q : Exit → Act → World → Prop} {w : World} (hgd : o.guard = none) (s x : Operand)
    (ho : o.op = .call { callee:=.builtin .append,args:=#[s,x],argTypes:=#[22,22] })
    (base : Nat) (v : Value) (n : Nat) (xs : List Int) (hs : a.eval s = v) (hown : Owns w base v n xs)
    (A : Option Addr) (m c : Nat) (ys : List Int) (hx : a.eval x = .slice A m c) (hr : Row w A m c ys) (h63 : n + m ≤ 1000000) (hbase : base ≤ w.heap.size)
    (h : ∀ v' w',Owns w' base v' (n + m) (xs ++ ys) → w.grownBy w' v.ownBlock → wpList Tryz.prog ops Q rest (a.put o.dst v') w') : wpList Tryz.prog ops Q (o :: rest) a w:=by
  refine wpList_plain hgd fun _ hK => ?_
  obtain ⟨v',w',hr,h2,h3⟩:=run_app o.type hown hr h63 hbase;unfold Oper.wp execOp;simp only [ho,resolve,invoke,builtin,Sem.run_bind,Sem.run_pure,Result.andThen_ok,List.map_toArray,List.map_cons,List.map_nil,hs,hx,hr];exact hK _ _ (h v' w' h2 h3)
theorem told_under (A : Option Addr) (n c k : Nat) (idx : List Nat) (t a b : ByteArray) (w : World) (hn : n ≤ 65536) (hk : n < k) (HT : Hid (TellsS t a b k idx)) :
    Calls Tryz.prog 265 #[.string t,.slice A n c] w fun e w' => e = .returned (.tuple #[.slice none 0 0,.int .i64 (-4)]) ∧ Below w.heap.size w w':=by
  obtain ⟨i,hi⟩:=HT.out.cuts;have HC:=zqh hi;have ha : a.size = k:=HT.out.takes;have h4:=HT.out.four;have h5 : (n : Int) - (k : Int) < 0:=by omega
  have h6 : (n : Int) < (k : Int):=by omega
  clear hi;go_enter Tryz.func265,Tryz.ntmps265;(go_wp2_with (go_at_call 288; ((with_reducible refine (cut_any t a b i _ HC).mono ?_); rintro e w1 ⟨rfl,bb⟩)));go_ret2;exact ⟨rfl,bb⟩


inductive Kind where
  | perm (k : Nat) (idx : List Nat)
  | qdup
  | depth
  | pick
  | roll
  | none
def kindF (s : List UInt8) : Kind :=
  if s = [68,85,80] then .perm 1 [0,0] else
  if s = [68,82,79,80] then .perm 1 [] else
  if s = [83,87,65,80] then .perm 2 [1,0] else
  if s = [79,86,69,82] then .perm 2 [0,1,0] else
  if s = [78,73,80] then .perm 2 [1] else
  if s = [84,85,67,75] then .perm 2 [1,0,1] else
  if s = [82,79,84] then .perm 3 [1,2,0] else
  if s = [45,82,79,84] then .perm 3 [2,0,1] else
  if s = [50,68,85,80] then .perm 2 [0,1,0,1] else
  if s = [50,68,82,79,80] then .perm 2 [] else
  if s = [50,83,87,65,80] then .perm 4 [2,3,0,1] else
  if s = [50,79,86,69,82] then .perm 4 [0,1,2,3,0,1] else
  if s = [63,68,85,80] then .qdup else
  if s = [68,69,80,84,72] then .depth else
  if s = [80,73,67,75] then .pick else
  if s = [82,79,76,76] then .roll else
  .none
inductive Res where
  | no
  | under
  | out (l : List Int)
def topF (l : List Int) : Int:=l.getD (l.length - 1) 0
def numOk (l : List Int) : Bool:=decide (0 < l.length ∧ 0 ≤ topF l ∧ topF l < (l.length : Int) - 1)
def placeF (l : List Int) : Nat:=l.length - 2 - (topF l).toNat
def resF (k : Kind) (l : List Int) : Res :=
  match k with
  | .perm k idx => if l.length < k then .under else .out (leftL l (l.length - k) idx)
  | .qdup => if l.length = 0 then .under else .out (if topF l = 0 then l else l ++ [topF l])
  | .depth => .out (l ++ [(l.length : Int)])
  | .pick => if numOk l = true then .out (l.take (l.length - 1) ++ [l.getD (placeF l) 0]) else .under
  | .roll => if numOk l = true then .out ((l.take (placeF l) ++ (l.take (l.length - 1)).drop (placeF l + 1)) ++ [l.getD (placeF l) 0]) else .under
  | .none => .no
def knownR : Res → Bool
  | .no => false
  | .under => true
  | .out _ => true
def codeR (r : Res) (limit : Int) : Int :=
  match r with
  | .no => 0
  | .under => -4
  | .out o => if limit < (o.length : Int) then -3 else 0
def listR (r : Res) (l : List Int) (limit : Int) : List Int :=
  match r with
  | .no => l
  | .under => l
  | .out o => if limit < (o.length : Int) then l else o
theorem num_cases (l : List Int) : (l = [] ∧ numOk l = false) ∨ (∃ k,l.length = k + 1 ∧ (l.getD k 0 < 0 ∨ (k : Int) ≤ l.getD k 0) ∧ numOk l = false) ∨ (∃ p y,l.length = p + 1 + y + 1 ∧ l.getD (p + 1 + y) 0 = (y : Int) ∧ numOk l = true ∧ placeF l = p):=by
  rcases Nat.eq_zero_or_pos l.length with h | h
  · exact .inl ⟨List.eq_nil_of_length_eq_zero h,by simp [numOk,h]⟩
  · right
    obtain ⟨k,hk⟩ : ∃ k,l.length = k + 1:=⟨l.length - 1,by omega⟩;have ht : topF l = l.getD k 0:=by simp only [topF]; rw [hk]; rfl
    by_cases hy : l.getD k 0 < 0 ∨ (k : Int) ≤ l.getD k 0
    · refine .inl ⟨k,hk,hy,?_⟩
      simp only [numOk,ht,hk,decide_eq_false_iff_not];omega
    · obtain ⟨y,hyy⟩:=Int.eq_ofNat_of_zero_le (by omega : 0 ≤ l.getD k 0)
      obtain ⟨p,hp⟩ : ∃ p,k = p + 1 + y:=⟨k - 1 - y,by omega⟩;refine .inr ⟨p,y,by omega,by rw [← hp,hyy],?_,?_⟩
      · simp only [numOk,ht,hk,decide_eq_true_eq]
        omega
      · simp only [placeF,ht,hk,hyy,Int.toNat_natCast]
        omega
theorem name_cases (s : ByteArray) {P : ByteArray → Prop}
    (h0 : P ⟨#[68,85,80]⟩)
    (h1 : P ⟨#[68,82,79,80]⟩)
    (h2 : P ⟨#[83,87,65,80]⟩)
    (h3 : P ⟨#[79,86,69,82]⟩)
    (h4 : P ⟨#[78,73,80]⟩)
    (h5 : P ⟨#[84,85,67,75]⟩)
    (h6 : P ⟨#[82,79,84]⟩)
    (h7 : P ⟨#[45,82,79,84]⟩)
    (h8 : P ⟨#[50,68,85,80]⟩)
    (h9 : P ⟨#[50,68,82,79,80]⟩)
    (h10 : P ⟨#[50,83,87,65,80]⟩)
    (h11 : P ⟨#[50,79,86,69,82]⟩)
    (h12 : P ⟨#[63,68,85,80]⟩)
    (h13 : P ⟨#[68,69,80,84,72]⟩)
    (h14 : P ⟨#[80,73,67,75]⟩)
    (h15 : P ⟨#[82,79,76,76]⟩)
    (hn : ¬ s.data.toList = [68,85,80] → ¬ s.data.toList = [68,82,79,80] → ¬ s.data.toList = [83,87,65,80] → ¬ s.data.toList = [79,86,69,82] → ¬ s.data.toList = [78,73,80] → ¬ s.data.toList = [84,85,67,75] → ¬ s.data.toList = [82,79,84] → ¬ s.data.toList = [45,82,79,84] → ¬ s.data.toList = [50,68,85,80] → ¬ s.data.toList = [50,68,82,79,80] → ¬ s.data.toList = [50,83,87,65,80] → ¬ s.data.toList = [50,79,86,69,82] → ¬ s.data.toList = [63,68,85,80] → ¬ s.data.toList = [68,69,80,84,72] → ¬ s.data.toList = [80,73,67,75] → ¬ s.data.toList = [82,79,76,76] → P s) : P s:=by
  by_cases e0 : s.data.toList = [68,85,80]
  · obtain rfl : s = ⟨#[68,85,80]⟩:=Go.WideShapes.bytes_inj (by rw [e0])
    exact h0
  by_cases e1 : s.data.toList = [68,82,79,80]
  · obtain rfl : s = ⟨#[68,82,79,80]⟩:=Go.WideShapes.bytes_inj (by rw [e1])
    exact h1
  by_cases e2 : s.data.toList = [83,87,65,80]
  · obtain rfl : s = ⟨#[83,87,65,80]⟩:=Go.WideShapes.bytes_inj (by rw [e2])
    exact h2
  by_cases e3 : s.data.toList = [79,86,69,82]
  · obtain rfl : s = ⟨#[79,86,69,82]⟩:=Go.WideShapes.bytes_inj (by rw [e3])
    exact h3
  by_cases e4 : s.data.toList = [78,73,80]
  · obtain rfl : s = ⟨#[78,73,80]⟩:=Go.WideShapes.bytes_inj (by rw [e4])
    exact h4
  by_cases e5 : s.data.toList = [84,85,67,75]
  · obtain rfl : s = ⟨#[84,85,67,75]⟩:=Go.WideShapes.bytes_inj (by rw [e5])
    exact h5
  by_cases e6 : s.data.toList = [82,79,84]
  · obtain rfl : s = ⟨#[82,79,84]⟩:=Go.WideShapes.bytes_inj (by rw [e6])
    exact h6
  by_cases e7 : s.data.toList = [45,82,79,84]
  · obtain rfl : s = ⟨#[45,82,79,84]⟩:=Go.WideShapes.bytes_inj (by rw [e7])
    exact h7
  by_cases e8 : s.data.toList = [50,68,85,80]
  · obtain rfl : s = ⟨#[50,68,85,80]⟩:=Go.WideShapes.bytes_inj (by rw [e8])
    exact h8
  by_cases e9 : s.data.toList = [50,68,82,79,80]
  · obtain rfl : s = ⟨#[50,68,82,79,80]⟩:=Go.WideShapes.bytes_inj (by rw [e9])
    exact h9
  by_cases e10 : s.data.toList = [50,83,87,65,80]
  · obtain rfl : s = ⟨#[50,83,87,65,80]⟩:=Go.WideShapes.bytes_inj (by rw [e10])
    exact h10
  by_cases e11 : s.data.toList = [50,79,86,69,82]
  · obtain rfl : s = ⟨#[50,79,86,69,82]⟩:=Go.WideShapes.bytes_inj (by rw [e11])
    exact h11
  by_cases e12 : s.data.toList = [63,68,85,80]
  · obtain rfl : s = ⟨#[63,68,85,80]⟩:=Go.WideShapes.bytes_inj (by rw [e12])
    exact h12
  by_cases e13 : s.data.toList = [68,69,80,84,72]
  · obtain rfl : s = ⟨#[68,69,80,84,72]⟩:=Go.WideShapes.bytes_inj (by rw [e13])
    exact h13
  by_cases e14 : s.data.toList = [80,73,67,75]
  · obtain rfl : s = ⟨#[80,73,67,75]⟩:=Go.WideShapes.bytes_inj (by rw [e14])
    exact h14
  by_cases e15 : s.data.toList = [82,79,76,76]
  · obtain rfl : s = ⟨#[82,79,76,76]⟩:=Go.WideShapes.bytes_inj (by rw [e15])
    exact h15
  exact hn e0 e1 e2 e3 e4 e5 e6 e7 e8 e9 e10 e11 e12 e13 e14 e15
theorem kind_DUP : kindF (⟨#[68,85,80]⟩ : ByteArray).data.toList = .perm 1 [0,0]:=by rfl
theorem kind_DROP : kindF (⟨#[68,82,79,80]⟩ : ByteArray).data.toList = .perm 1 []:=by rfl
theorem kind_SWAP : kindF (⟨#[83,87,65,80]⟩ : ByteArray).data.toList = .perm 2 [1,0]:=by rfl
theorem kind_OVER : kindF (⟨#[79,86,69,82]⟩ : ByteArray).data.toList = .perm 2 [0,1,0]:=by rfl
theorem kind_NIP : kindF (⟨#[78,73,80]⟩ : ByteArray).data.toList = .perm 2 [1]:=by rfl
theorem kind_TUCK : kindF (⟨#[84,85,67,75]⟩ : ByteArray).data.toList = .perm 2 [1,0,1]:=by rfl
theorem kind_ROT : kindF (⟨#[82,79,84]⟩ : ByteArray).data.toList = .perm 3 [1,2,0]:=by rfl
theorem kind_mROT : kindF (⟨#[45,82,79,84]⟩ : ByteArray).data.toList = .perm 3 [2,0,1]:=by rfl
theorem kind_2DUP : kindF (⟨#[50,68,85,80]⟩ : ByteArray).data.toList = .perm 2 [0,1,0,1]:=by rfl
theorem kind_2DROP : kindF (⟨#[50,68,82,79,80]⟩ : ByteArray).data.toList = .perm 2 []:=by rfl
theorem kind_2SWAP : kindF (⟨#[50,83,87,65,80]⟩ : ByteArray).data.toList = .perm 4 [2,3,0,1]:=by rfl
theorem kind_2OVER : kindF (⟨#[50,79,86,69,82]⟩ : ByteArray).data.toList = .perm 4 [0,1,2,3,0,1]:=by rfl
theorem kind_qDUP : kindF (⟨#[63,68,85,80]⟩ : ByteArray).data.toList = .qdup:=by rfl
theorem kind_DEPTH : kindF (⟨#[68,69,80,84,72]⟩ : ByteArray).data.toList = .depth:=by rfl
theorem kind_PICK : kindF (⟨#[80,73,67,75]⟩ : ByteArray).data.toList = .pick:=by rfl
theorem kind_ROLL : kindF (⟨#[82,79,76,76]⟩ : ByteArray).data.toList = .roll:=by rfl
theorem kind_other (s : List UInt8) (e0 : ¬ s = [68,85,80]) (e1 : ¬ s = [68,82,79,80]) (e2 : ¬ s = [83,87,65,80]) (e3 : ¬ s = [79,86,69,82]) (e4 : ¬ s = [78,73,80]) (e5 : ¬ s = [84,85,67,75]) (e6 : ¬ s = [82,79,84]) (e7 : ¬ s = [45,82,79,84]) (e8 : ¬ s = [50,68,85,80]) (e9 : ¬ s = [50,68,82,79,80]) (e10 : ¬ s = [50,83,87,65,80]) (e11 : ¬ s = [50,79,86,69,82]) (e12 : ¬ s = [63,68,85,80]) (e13 : ¬ s = [68,69,80,84,72]) (e14 : ¬ s = [80,73,67,75]) (e15 : ¬ s = [82,79,76,76]) : kindF s = .none:=by
  simp only [kindF,e0,e1,e2,e3,e4,e5,e6,e7,e8,e9,e10,e11,e12,e13,e14,e15,if_false]


theorem pop_none (A : Option Addr) (c : Nat) (w : World) (HR : Hid (Row w A 0 c [])) :
    Calls Tryz.prog 259 #[.slice A 0 c] w fun e w' => ∃ B m d,e = .returned (.tuple #[.int .i64 0,.slice B m d,.int .i64 (-4)]) ∧ Row w' B m d [] ∧ Below w.heap.size w w':=pop_at A 0 c [] w (by omega) HR
theorem pop_one (A : Option Addr) (k c : Nat) (l : List Int) (y : Int) (w : World) (hn : k + 1 ≤ 65536) (HR : Hid (Row w A (k + 1) c l)) (HY : Hid (l.getD k 0 = y)) :
    Calls Tryz.prog 259 #[.slice A (k + 1) c] w fun e w' => ∃ B d,e = .returned (.tuple #[.int .i64 y,.slice B k d,.int .i64 0]) ∧ Row w' B k d (l.take k) ∧ Below w.heap.size w w':=by
  obtain ⟨h1,h2,h3⟩:=pop_some HR.out.1;refine (pop_at A (k + 1) c l w hn HR).mono ?_;rintro e w' ⟨B,m,d,rfl,hr,hb⟩;rw [h2] at hr;have hm : k = m:=by
    have:=hr.1;have hl:=HR.out.1;simp at this;omega
  subst hm;rw [h1,h3,HY.out];exact ⟨_,_,rfl,hr,hb⟩
theorem numbered_none (A : Option Addr) (c : Nat) (w : World) (HR : Hid (Row w A 0 c [])) :
    Calls Tryz.prog 289 #[.slice A 0 c] w fun e w' => e = .returned (.tuple #[.slice none 0 0,.int .i64 0,.int .i64 (-4)]) ∧ Below w.heap.size w w':=by
  go_enter Tryz.func289,Tryz.ntmps289;(go_wp2_with fail);refine (pop_none _ _ _ HR).mono ?_;rintro e w1 ⟨B,m,d,rfl,hr,bb⟩;clear hr;(go_wp2_with fail)
  go_ret3
  exact ⟨rfl,bb⟩
theorem numbered_out (A : Option Addr) (k c : Nat) (l : List Int) (y : Int) (w : World) (hn : k + 1 ≤ 65536) (hy : y < 0 ∨ (k : Int) ≤ y) (HR : Hid (Row w A (k + 1) c l)) (HY : Hid (l.getD k 0 = y)) :
    Calls Tryz.prog 289 #[.slice A (k + 1) c] w fun e w' => e = .returned (.tuple #[.slice none 0 0,.int .i64 0,.int .i64 (-4)]) ∧ Below w.heap.size w w':=by
  by_cases h : y < 0
  · clear hy
    go_enter Tryz.func289,Tryz.ntmps289;(go_wp2_with fail);refine (pop_one _ _ _ _ _ _ hn HR HY).mono ?_;rintro e w1 ⟨B,d,rfl,hr,bb⟩;clear hr;(go_wp2_with fail)
    go_ret3
    exact ⟨rfl,bb⟩
  · have h1 : decide (y < 0) = false:=by simp; omega
    have h2 : (k : Int) ≤ y:=by omega
    clear hy h;go_enter Tryz.func289,Tryz.ntmps289;(go_wp2_with fail);refine (pop_one _ _ _ _ _ _ hn HR HY).mono ?_;rintro e w1 ⟨B,d,rfl,hr,bb⟩;clear hr;(go_wp2_with fail)
    go_ret3
    exact ⟨rfl,bb⟩
theorem numbered_ok (A : Option Addr) (p y c : Nat) (l : List Int) (w : World) (hn : p + y + 2 ≤ 65536) (HR : Hid (Row w A (p + 1 + y + 1) c l)) (HY : Hid (l.getD (p + 1 + y) 0 = (y : Int))) :
    Calls Tryz.prog 289 #[.slice A (p + 1 + y + 1) c] w fun e w' => ∃ B d,e = .returned (.tuple #[.slice B (p + 1 + y) d,.int .i64 (p : Int),.int .i64 0]) ∧ Row w' B (p + 1 + y) d (l.take (p + 1 + y)) ∧ Below w.heap.size w w':=by
  have h1 : decide ((y : Int) < 0) = false:=by simp
  have h2 : decide ((p : Int) + 1 + (y : Int) ≤ (y : Int)) = false:=by simp; omega
  have h3 : (p : Int) + 1 + (y : Int) - 1 - (y : Int) = (p : Int):=by omega
  go_enter Tryz.func289,Tryz.ntmps289;(go_wp2_with fail);refine (pop_one _ _ _ _ _ _ (by omega) HR HY).mono ?_;rintro e w1 ⟨B,d,rfl,hr,bb⟩;have HR1:=zqh hr;clear hr;(go_wp2_with fail)
  go_ret3
  exact ⟨_,_,rfl,HR1.out,bb⟩
end Go.Proofs.YtcmldhjicjmmgaaGreatDoor
