/- Part 4. -/
import Derived.Test.YtcmldhjicjmmgaaGreatDoorXkAC
import Derived.ProofKit
import Derived.OpenShut
import Derived.ShutString
import Derived.ChangeOld
import Derived.Deep.Slices
import Derived.Deep.Fields
import Derived.Deep.DeepCutAuto
import Derived.Deep.Cut
import Derived.Shelf.Strings.Fields
import Derived.Shelf.Spec.SlicesGrow
import Derived.Laws.RangeAny
import Derived.Lib.OthersKept
set_option linter.unusedVariables false
set_option linter.unusedSimpArgs false
set_option maxRecDepth 100000
set_option maxHeartbeats 4000000

namespace Go.Proofs.YtcmldhjicjmmgaaGreatDoor
open Go.RowKit


def sm : PM:=newF 16
def sx : PM:=storeF sm 8 258
theorem s1 : newC 16 = 0:=by decide +kernel
theorem s2 : sm.1.length = 16 ∧ sm.2.length = 0 ∧ sx.1.length = 16 ∧ sx.2.length = 1:=by decide +kernel
theorem s3 : cellC 16 8 = 0 ∧ cellC 16 9 = -9 ∧ cellC 16 4 = -23:=by decide +kernel
theorem s4 : fetchF sx 8 = 258:=by decide +kernel
theorem s5 : backC sx 0 = 0 ∧ backF sx 0 = sm:=by decide +kernel
theorem s6 : codeF (okB 16 8 2) = 0 ∧ textF sx 8 2 = [2,1] ∧ codeF (okB 16 8 1) = 0 ∧ byteF sx 8 = 2:=by decide +kernel
theorem s7 : rightB sx = true ∧ rightB ([1],[]) = false ∧ decide (sm = sm) = true ∧ decide (sx = sm) = false:=by decide +kernel
def At (b : Nat) (A P : Option Addr) (L c K d : Nat) (m : PM) (w : World) : Prop:=Box w b (.slice A L c) (.slice P K d) 29 ∧ IsMem w (.agg #[.slice A L c,.slice P K d]) m
theorem At.keep {b : Nat} {A P : Option Addr} {L c K d : Nat} {m : PM} {w w' : World} (h : At b A P L c K d m w) (k : Below w.heap.size w w') : At b A P L c K d m w':=⟨h.1.keep k,h.2.keep k⟩
theorem At.mem {b : Nat} {A P : Option Addr} {L c K d : Nat} {m : PM} {w : World} (h : At b A P L c K d m w) : IsMem w (.agg #[.slice A L c,.slice P K d]) m:=h.2
theorem At.use {b : Nat} {A P : Option Addr} {L c K d : Nat} {m : PM} {w : World} (h : At b A P L c K d m w) : w.cell? ⟨b,0,none⟩ = some (.slice A L c) ∧ w.cell? ⟨b,1,none⟩ = some (.slice P K d):=⟨h.1.use.1,h.1.use.2.1⟩
theorem At.lt {b : Nat} {A P : Option Addr} {L c K d : Nat} {m : PM} {w : World} (h : At b A P L c K d m w) : b < w.heap.size:=h.1.lt
theorem al_one (w : World) (o : Obj) : Below w.heap.size w (w.alloc o):=(Below.refl _ _).alloc (Nat.le_refl _) o
open Go.ChangeShapes Go.WideShapes Go.ChangeAt Go.RowKit Go.Joins Go.Deep


theorem plain_of {w : World} {x : Addr} {v : Value} (h : w.cell? (x.add 0) = some v) : ∃ b off,x = ⟨b,off,none⟩ ∧ b < w.heap.size:=by
  obtain ⟨b,off,sp⟩:=x;have e : (⟨b,off,sp⟩ : Addr).add 0 = ⟨b,off,sp⟩:=by simp [Addr.add]
  rw [e] at h;have hl : b < w.heap.size:=by
    rcases Nat.lt_or_ge b w.heap.size with hl | hl
    · exact hl
    · unfold World.cell? at h
      rw [Array.getElem?_eq_none hl] at h;simp at h
  cases sp with
  | none => exact ⟨b,off,rfl,hl⟩
  | some s =>
    unfold World.cell? at h
    split at h <;> simp_all
section
variable {H : Type} {enc : TypeId × Value → H} {w : World}
end
open Go.RowKit


def Z3 (w : World) (b1 b2 b3 : Nat) (A P A2 P2 A3 P3 : Option Addr) (L c K d L2 c2 K2 d2 L3 c3 K3 d3 : Nat) (m x y : PM) (w' : World) : Prop:=Below w.heap.size w w' ∧ At b1 A P L c K d m w' ∧ At b2 A2 P2 L2 c2 K2 d2 x w' ∧ At b3 A3 P3 L3 c3 K3 d3 y w'
section
variable {w w1 w2 : World} {b1 b2 b3 : Nat} {A P A2 P2 A3 P3 : Option Addr} {L c K d L2 c2 K2 d2 L3 c3 K3 d3 : Nat} {m x y : PM}
theorem Z3.keep (h : Z3 w b1 b2 b3 A P A2 P2 A3 P3 L c K d L2 c2 K2 d2 L3 c3 K3 d3 m x y w1) (b : Below w1.heap.size w1 w2) : Z3 w b1 b2 b3 A P A2 P2 A3 P3 L c K d L2 c2 K2 d2 L3 c3 K3 d3 m x y w2:=⟨below_then h.1 b,h.2.1.keep b,h.2.2.1.keep b,h.2.2.2.keep b⟩
theorem Z3.drew (h : Z3 w b1 b2 b3 A P A2 P2 A3 P3 L c K d L2 c2 K2 d2 L3 c3 K3 d3 m x y w1) : Z3 w b1 b2 b3 A P A2 P2 A3 P3 L c K d L2 c2 K2 d2 L3 c3 K3 d3 m x y w1.drew:=⟨h.1.drew,h.2.1,h.2.2.1,h.2.2.2⟩
theorem Z3.bel (h : Z3 w b1 b2 b3 A P A2 P2 A3 P3 L c K d L2 c2 K2 d2 L3 c3 K3 d3 m x y w1) : Below w.heap.size w w1:=h.1
theorem Z3.one (h : Z3 w b1 b2 b3 A P A2 P2 A3 P3 L c K d L2 c2 K2 d2 L3 c3 K3 d3 m x y w1) : IsMem w1 (.agg #[.slice A L c,.slice P K d]) m:=h.2.1.mem
theorem Z3.two (h : Z3 w b1 b2 b3 A P A2 P2 A3 P3 L c K d L2 c2 K2 d2 L3 c3 K3 d3 m x y w1) : IsMem w1 (.agg #[.slice A2 L2 c2,.slice P2 K2 d2]) x:=h.2.2.1.mem
theorem Z3.free (h : Z3 w b1 b2 b3 A P A2 P2 A3 P3 L c K d L2 c2 K2 d2 L3 c3 K3 d3 m x y w1) : IsMem w1 (.agg #[.slice A L c,.slice none 0 0]) (m.1,[]):=mem_mk h.2.1.mem.byt (pats_nil _)
end
open Go.RowKit


abbrev BOwns (w : World) (base : Nat) (v : Value) (n : Nat) (l : List UInt8) : Prop:=w.ownsRow base 5 1 v n (u8s l)
theorem BOwns.byt {w : World} {base n : Nat} {v : Value} {l : List UInt8} (h : BOwns w base v n l) : Byt w v l:=own_byt h
theorem BOwns.len {w : World} {base n : Nat} {v : Value} {l : List UInt8} (h : BOwns w base v n l) : l.length = n:=by
  have hl:=h.1;rw [u8s_len,Nat.mul_one] at hl;exact hl
theorem BOwns.alloc {w : World} {base n : Nat} {v : Value} {l : List UInt8} (h : BOwns w base v n l) (o : Obj) : BOwns (w.alloc o) base v n l:=World.ownsRow.alloc h o
theorem Box.grown {w w' : World} {b : Nat} {x y : Value} {t : TypeId} {row : Option Nat} (h : Box w b x y t) (hg : w.grownBy w' row) (hne : some b ≠ row) : Box w' b x y t:=(hg.block b h.lt hne).trans h


def Rest (b u0 u : Nat) (l : List UInt8) : Prop:=(b ≤ u → usF b u0 = usF b (u / b) ++ l) ∧ (u < b → usF b u0 = l)
theorem us_le {b : Nat} (h2 : 2 ≤ b) : ∀ j u,u < 2 ^ (j + 1) → (usF b u).length ≤ j + 1:=by
  intro j
  induction j with
  | zero =>
    intro u hu;rw [usF_low (by omega)];simp
  | succ j ih =>
    intro u hu
    by_cases h : b ≤ u
    · rw [usF_big h2 h,List.length_append]
      have hd : u / b < 2 ^ (j + 1):=by
        rw [Nat.div_lt_iff_lt_mul (by omega)];have e : 2 ^ (j + 1 + 1) = 2 ^ (j + 1) * 2:=Nat.pow_succ _ _;have : 2 ^ (j + 1) * 2 ≤ 2 ^ (j + 1) * b:=Nat.mul_le_mul_left _ h2;omega
      have:=ih _ hd;simp;omega
    · rw [usF_low (by omega)]
      simp
theorem Rest.len {b u0 u : Nat} {l : List UInt8} (h2 : 2 ≤ b) (h : Rest b u0 u l) (h0 : u0 < 18446744073709551616) : l.length ≤ 64:=by
  have hl:=us_le h2 63 u0 (by omega)
  by_cases hu : b ≤ u
  · rw [h.1 hu,List.length_append] at hl
    omega
  · rw [h.2 (by omega)] at hl
    exact hl
theorem alloc_then {w w1 : World} {o : Obj} (b : Below w.heap.size w w1) : Below w.heap.size w (w1.alloc o):=b.alloc b.size o


theorem info_str : (Tryz.prog.info? 9).map (fun i => (i.zero,i.size,i.bytes)) = some (some (.string ⟨#[]⟩),1,16):=by kernel_rfl
def sts (l : List (List UInt8)) : List Value:=l.map fun b => .string (strB b)
theorem sts_len (l : List (List UInt8)) : (sts l).length = l.length:=by simp [sts]
theorem sts_one (l : List (List UInt8)) : ∀ v ∈ sts l,v.oneCell' = true:=by
  intro v hv;unfold sts at hv;rw [List.mem_map] at hv;obtain ⟨b,_,rfl⟩:=hv;rfl
theorem sts_app (a b : List (List UInt8)) : sts (a ++ b) = sts a ++ sts b:=by simp [sts]
theorem sts_at {l : List (List UInt8)} {j : Nat} (h : j < l.length) : (sts l)[j]? = some (.string (strB l[j])):=by simp [sts,h]
def Sts (w : World) (v : Value) (l : List (List UInt8)) : Prop:=∃ A c,v = .slice A l.length c ∧ l.length ≤ c ∧ c ≤ maxLen ∧ Lies w A (sts l)
theorem Sts.keep {w w' : World} {v : Value} {l : List (List UInt8)} (h : Sts w v l) (b : Below w.heap.size w w') : Sts w' v l:=by
  obtain ⟨A,c,h1,h2,h3,h4⟩:=h;exact ⟨A,c,h1,h2,h3,h4.keep b⟩
theorem sts_nil (w : World) : Sts w (.slice none 0 0) []:=⟨none,0,rfl,Nat.le_refl _,Nat.zero_le _,.inl rfl⟩
theorem sts_block {w : World} {g : Nat} {l : List (List UInt8)} {t : TypeId} (h : w.heap[g]? = some (.cells (sts l).toArray t (0,0))) (hl : l.length ≤ 65536) : Sts w (.slice (some ⟨g,0,none⟩) l.length l.length) l :=
  ⟨_,_,rfl,Nat.le_refl _,by unfold maxLen; omega,lies_block h⟩
theorem Sts.len {w : World} {A : Option Addr} {n c : Nat} {l : List (List UInt8)} (h : Sts w (.slice A n c) l) : l.length = n:=by
  obtain ⟨A',c',e,_⟩:=h;injection e with _ e _
  exact e.symm
theorem Sts.lies {w : World} {A : Option Addr} {n c : Nat} {l : List (List UInt8)} (h : Sts w (.slice A n c) l) : Lies w A (sts l):=by
  obtain ⟨A',c',e,_,_,hl⟩:=h;injection e with e _ _
  subst e;exact hl
theorem sts_cell {w : World} {A : Option Addr} {n c : Nat} {l : List (List UInt8)} (h : Sts w (.slice A n c) l) {k : Nat} (hk : k < l.length) : ∃ g o,A = some ⟨g,o,none⟩ ∧ w.cell? ⟨g,o + k,none⟩ = some (.string (strB l[k])):=by
  rcases h.lies with h | ⟨g,o,e,_,hc⟩
  · have:=congrArg List.length h
    rw [sts_len] at this;have h0 : l.length = 0:=this;omega
  · exact ⟨g,o,e,hc k _ (sts_at hk)⟩
abbrev SOwns (w : World) (base : Nat) (v : Value) (n : Nat) (l : List (List UInt8)) : Prop:=w.ownsRow base 9 1 v n (sts l)
theorem SOwns.sts {w : World} {base n : Nat} {v : Value} {l : List (List UInt8)} (h : SOwns w base v n l) : Sts w v l:=by
  have hl:=h.1;rw [sts_len,Nat.mul_one] at hl;subst hl
  rcases h.2 with ⟨rfl,h0⟩ | ⟨g,cap,cur,rfl,_,hg,hnc,hcm,_,ht⟩
  · have : l = []:=List.eq_nil_of_length_eq_zero h0
    subst this;exact sts_nil w
  · refine ⟨some ⟨g,0,none⟩,cap,rfl,hnc,hcm,.inr ⟨g,0,rfl,(Array.getElem?_eq_some_iff.1 hg).1,fun j x hx => ?_⟩⟩
    rw [← ht,List.getElem?_take] at hx
    split at hx
    · rw [Nat.zero_add]
      simp [World.cell?,hg];simpa using hx
    · cases hx
theorem SOwns.alloc {w : World} {base n : Nat} {v : Value} {l : List (List UInt8)} (h : SOwns w base v n l) (o : Obj) : SOwns (w.alloc o) base v n l:=World.ownsRow.alloc h o
theorem SOwns.keep {w w' : World} {base n : Nat} {v : Value} {l : List (List UInt8)} (h : SOwns w base v n l) (b : Below w.heap.size w w') : SOwns w' base v n l:=by
  refine ⟨h.1,?_⟩
  rcases h.2 with h2 | ⟨g,cap,cur,e,hb,hg,h3,h4,h5,h6⟩
  · exact .inl h2
  · exact .inr ⟨g,cap,cur,e,hb,(b.block g (Array.getElem?_eq_some_iff.1 hg).1).trans hg,h3,h4,h5,h6⟩
theorem sown_from {w : World} {base e size n : Nat} {v : Value} {xs : List Value} (h : w.ownsRow base e size v n xs) : ∀ k,v.ownBlock = some k → base ≤ k:=fun k hk => (h.lt k hk).1
theorem run_sapp {w : World} (ty : TypeId) {base n : Nat} {v : Value} {xs : List (List UInt8)} (hown : SOwns w base v n xs) {A : Option Addr} {m c : Nat} {ys : List (List UInt8)} (hr : Sts w (.slice A m c) ys) (h63 : n + m ≤ 1000000) (hbase : base ≤ w.heap.size) :
    ∃ v' w',(Builtin.append_ #[51,51] ty #[v,.slice A m c]).run Tryz.prog w = .ok v' w' ∧ SOwns w' base v' (n + m) (xs ++ ys) ∧ w.grownBy w' v.ownBlock:=by
  obtain ⟨i0,hi,hz0,hz1,hz2⟩:=info_parts info_str;have h1:=hr.len;have h4:=hr.lies;cases A with
  | some ad =>
    have hsrc : ∀ j u,(sts ys)[j]? = some u → w.cell? (ad.add j) = some u:=by
      intro j u hu
      rcases h4 with h4 | ⟨g,o,e,_,hc⟩
      · rw [h4] at hu; simp at hu
      · injection e with e
        rw [e,add_at];exact hc j u hu
    obtain ⟨v',w',ha,hb,hc,_⟩:=run_append_own (P:=Tryz.prog) w base 51 ty 9 i0 (.string ⟨#[]⟩) 1 16 Tryz.underlying51 hi hz0 hz1 hz2 rfl (by decide) v n (sts xs) hown ad m c (sts ys) (by rw [sts_len,h1,Nat.mul_one]) hsrc (sts_one ys) (by unfold maxLen; omega) (by omega) hbase;exact ⟨v',w',ha,by have e:=sts_app xs ys; unfold SOwns; rw [e]; exact hb,hc⟩
  | none =>
    have hnil : ys = []:=by
      rcases h4 with h | ⟨_,_,h,_⟩
      · have:=congrArg List.length h
        rw [sts_len] at this;exact List.eq_nil_of_length_eq_zero this
      · cases h
    subst hnil;have hm : m = 0:=by rw [← h1]; rfl
    subst hm;refine ⟨v,w,?_,by simpa using hown,World.grownBy.refl w _⟩
    rcases hown.2 with ⟨rfl,rfl⟩ | ⟨g,cap,cur,rfl,_,_,hnc,_⟩
    · simp [Builtin.append_,run_underlying Tryz.underlying51,sizeOf,typeInfo,hi,Builtin.lenOf,Builtin.firstCells]
    · simp [Builtin.append_,run_underlying Tryz.underlying51,sizeOf,typeInfo,hi,Builtin.lenOf,Builtin.firstCells,hnc,storeCells]
theorem sapp_below {w0 w w' : World} {base n : Nat} {v : Value} {xs : List (List UInt8)} (hown : SOwns w base v n xs) (hb : Below w0.heap.size w0 w) (hg : w.grownBy w' v.ownBlock) (hB : w0.heap.size ≤ base) : Below w0.heap.size w0 w' :=
  hb.grown hg hb.size (fun k hk => Nat.le_trans hB (sown_from hown k hk))
theorem wp_sapp {o : Oper} {a : Act} {K : Act → World → Prop} {Q : Exit → Act → World → Prop} {w : World} (s x : Operand)
    (ho : o.op = .call { callee:=.builtin .append,args:=#[s,x],argTypes:=#[51,51] })
    (base : Nat) (v : Value) (n : Nat) (xs : List (List UInt8)) (hs : a.eval s = v) (hown : SOwns w base v n xs)
    (A : Option Addr) (m c : Nat) (ys : List (List UInt8)) (hx : a.eval x = .slice A m c) (hr : Sts w (.slice A m c) ys) (h63 : n + m ≤ 1000000) (hbase : base ≤ w.heap.size)
    (w0 : World) (hb : Below w0.heap.size w0 w) (hB : w0.heap.size ≤ base)
    (h : ∀ v' w',SOwns w' base v' (n + m) (xs ++ ys) → Below w0.heap.size w0 w' → w.grownBy w' v.ownBlock → K (a.put o.dst v') w') : o.wp Tryz.prog a w K Q:=by
  obtain ⟨v',w',hr,h2,h3⟩:=run_sapp o.type hown hr h63 hbase;unfold Oper.wp execOp;simp only [ho,resolve,invoke,builtin,Sem.run_bind,Sem.run_pure,Result.andThen_ok,List.map_toArray,List.map_cons,List.map_nil,hs,hx,hr];exact h v' w' h2 (sapp_below hown hb h3 hB) h3
theorem wpList_sapp {ops : Array Oper} {rest : List Oper} {o : Oper} {a : Act} {Q : Exit → Act → World → Prop} {w : World} (hgd : o.guard = none) (s x : Operand)
    (ho : o.op = .call { callee:=.builtin .append,args:=#[s,x],argTypes:=#[51,51] })
    (base : Nat) (v : Value) (n : Nat) (xs : List (List UInt8)) (hs : a.eval s = v) (hown : SOwns w base v n xs)
    (A : Option Addr) (m c : Nat) (ys : List (List UInt8)) (hx : a.eval x = .slice A m c) (hr : Sts w (.slice A m c) ys) (h63 : n + m ≤ 1000000) (hbase : base ≤ w.heap.size)
    (w0 : World) (hb : Below w0.heap.size w0 w) (hB : w0.heap.size ≤ base)
    (h : ∀ v' w',SOwns w' base v' (n + m) (xs ++ ys) → Below w0.heap.size w0 w' → w.grownBy w' v.ownBlock → wpList Tryz.prog ops Q rest (a.put o.dst v') w') : wpList Tryz.prog ops Q (o :: rest) a w :=
  wpList_plain hgd fun _ hK => wp_sapp s x ho base v n xs hs hown A m c ys hx hr h63 hbase w0 hb hB fun v' w' h2 h3 h4 => hK _ _ (h v' w' h2 h3 h4)
end Go.Proofs.YtcmldhjicjmmgaaGreatDoor

namespace Go.Proofs
open Go.Shelf
def Tryz.fields_ren : Go.Shelf.Ren:=⟨fun | 157 => 91 | 199 => 118 | 229 => 117 | 261 => 211 | 311 => 262 | 312 => 263 | n => n,fun | 0 => 0 | 3 => 3 | 4 => 4 | 5 => 5 | 9 => 9 | 21 => 21 | 31 => 51 | 40 => 178 | 46 => 286 | 49 => 274 | 51 => 234 | 119 => 176 | 141 => 236 | 152 => 231 | 154 => 233 | 193 => 270 | 194 => 271 | 196 => 273 | 198 => 276 | 201 => 279 | 226 => 305 | 227 => 306 | n => n,fun | 0 => 2 | 6 => 3 | n => n⟩
theorem Tryz.fields_lays : Go.Proofs.Lays.n157 Tryz.prog Tryz.fields_ren:={
  mixed:=by kernel_rfl
  f157:=Tryz.func91.trans (congrArg some (by kernel_rfl))
  f199:=Tryz.func118.trans (congrArg some (by kernel_rfl))
  f229:=Tryz.func117.trans (congrArg some (by kernel_rfl))
  f261:=Tryz.func211.trans (congrArg some (by kernel_rfl))
  f311:=Tryz.func262.trans (congrArg some (by kernel_rfl))
  f312:=Tryz.func263.trans (congrArg some (by kernel_rfl))
  t0:=Tryz.underlying0
  a0:=Tryz.isAgg0
  z0:=Tryz.sizeOf0
  v0:=Tryz.zeroValue0
  t3:=Tryz.underlying3
  a3:=Tryz.isAgg3
  z3:=Tryz.sizeOf3
  v3:=Tryz.zeroValue3
  t4:=Tryz.underlying4
  a4:=Tryz.isAgg4
  z4:=Tryz.sizeOf4
  v4:=Tryz.zeroValue4
  t5:=Tryz.underlying5
  a5:=Tryz.isAgg5
  z5:=Tryz.sizeOf5
  v5:=Tryz.zeroValue5
  t9:=Tryz.underlying9
  a9:=Tryz.isAgg9
  z9:=Tryz.sizeOf9
  v9:=Tryz.zeroValue9
  t21:=Tryz.underlying21
  a21:=Tryz.isAgg21
  z21:=Tryz.sizeOf21
  v21:=Tryz.zeroValue21
  t31:=Tryz.underlying51
  a31:=Tryz.isAgg51
  z31:=Tryz.sizeOf51
  v31:=Tryz.zeroValue51
  t40:=Tryz.underlying178
  a40:=Tryz.isAgg178
  z40:=Tryz.sizeOf178
  v40:=Tryz.zeroValue178
  t46:=Tryz.underlying286
  a46:=Tryz.isAgg286
  z46:=Tryz.sizeOf286
  v46:=Tryz.zeroValue286
  t49:=Tryz.underlying274
  a49:=Tryz.isAgg274
  z49:=Tryz.sizeOf274
  v49:=Tryz.zeroValue274
  t51:=Tryz.underlying234
  a51:=Tryz.isAgg234
  z51:=Tryz.sizeOf234
  v51:=Tryz.zeroValue234
  t119:=Tryz.underlying176
  a119:=Tryz.isAgg176
  z119:=Tryz.sizeOf176
  t141:=Tryz.underlying236
  a141:=Tryz.isAgg236
  z141:=Tryz.sizeOf236
  v141:=Tryz.zeroValue236
  t152:=Tryz.underlying231
  a152:=Tryz.isAgg231
  z152:=Tryz.sizeOf231
  v152:=Tryz.zeroValue231
  t154:=Tryz.underlying233
  a154:=Tryz.isAgg233
  z154:=Tryz.sizeOf233
  v154:=Tryz.zeroValue233
  t193:=Tryz.underlying270
  a193:=Tryz.isAgg270
  z193:=Tryz.sizeOf270
  v193:=Tryz.zeroValue270
  t194:=Tryz.underlying271
  a194:=Tryz.isAgg271
  z194:=Tryz.sizeOf271
  v194:=Tryz.zeroValue271
  t196:=Tryz.underlying273
  a196:=Tryz.isAgg273
  z196:=Tryz.sizeOf273
  v196:=Tryz.zeroValue273
  t198:=Tryz.underlying276
  a198:=Tryz.isAgg276
  z198:=Tryz.sizeOf276
  v198:=Tryz.zeroValue276
  t201:=Tryz.underlying279
  a201:=Tryz.isAgg279
  z201:=Tryz.sizeOf279
  v201:=Tryz.zeroValue279
  t226:=Tryz.underlying305
  a226:=Tryz.isAgg305
  z226:=Tryz.sizeOf305
  v226:=Tryz.zeroValue305
  t227:=Tryz.underlying306
  a227:=Tryz.isAgg306
  z227:=Tryz.sizeOf306
  v227:=Tryz.zeroValue306
  g0:=by kernel_rfl
  g6:=by kernel_rfl }
end Go.Proofs
namespace Go.Proofs.YtcmldhjicjmmgaaGreatDoor
open Go.RowKit Go.Lib Go.Shelf


def Tab (w : World) : Prop:=∀ c : Nat,c < 256 → w.cell? ⟨2,c,none⟩ = some (.int .u8 (if Lib.isSp (UInt8.ofNat c) then 1 else 0))
theorem Tab.keep {w w' : World} (h : Tab w) (b : Below w.heap.size w w') : Tab w':=fun c hc => (b.cell (p:=⟨2,c,none⟩) (World.block_lt_of_cell? _ _ (h c hc))).trans (h c hc)
theorem fields_hi : (Tryz.prog.info? (Tryz.fields_ren.t 9)).map (fun i => (i.zero,i.size,i.bytes)) = some (some (.string ByteArray.empty),1,16):=by kernel_rfl
theorem fields_any (l : List UInt8) (w : World) (hl : l.length < 4294967281) (ha : l.all (fun b => decide (b.toNat < 128)) = true) (ht : Tab w) (ls : List (List UInt8)) (hls : Lib.fields l = ls) :
    Calls Tryz.prog 91 #[.string (strB l)] w fun e w' => e = .returned (.slice (some ⟨w.heap.size,0,none⟩) ls.length ls.length) ∧ w' = w.alloc (.cells (sts ls).toArray 9):=by
  have h:=Any.strings_Fields_core Tryz.fields_lays fields_hi (strB l) w (by rw [strB_size]; exact hl) (fun j b hb => by
    have : b ∈ l:=by
      have e : (strB l).data.toList = l:=by simp [strB]
      rw [e] at hb;exact List.mem_of_getElem? hb
    simpa using List.all_eq_true.1 ha b this) ht
  have e : (strB l).data.toList = l:=by simp [strB]
  rw [e,hls] at h;exact h
end Go.Proofs.YtcmldhjicjmmgaaGreatDoor

namespace Go.Proofs
open Go.Shelf
end Go.Proofs
namespace Go.Proofs.YtcmldhjicjmmgaaGreatDoor
open Go.RowKit Go.Lib Go.Shelf


theorem pair_new (w : World) (a b : Value) (t : TypeId) : (w.alloc (.cells #[a,b] t)).cell? ⟨w.heap.size,0,none⟩ = some a ∧ (w.alloc (.cells #[a,b] t)).cell? ⟨w.heap.size,1,none⟩ = some b:=by
  have h:=one_newN w #[a,b] t;constructor <;> (unfold World.cell?; rw [h]; rfl)
open Go.RowKit


theorem drewN_belowW (w : World) (n : Nat) : Below w.heap.size w (w.drewN n):=⟨rfl,rfl,rfl,Nat.le_refl _,fun _ _ => rfl⟩
theorem info_word : (Tryz.prog.info? 81).map (fun i => (i.zero,i.size,i.bytes)) = some (some (.agg #[.string ⟨#[]⟩,.int .i64 0,.int .i64 0]),3,32):=by kernel_rfl
structure Wr where
  nm : List UInt8
  xt : Int
  fl : Int
  deriving DecidableEq
def wcell (q : Wr) : List Value:=[.string (strB q.nm),.int .i64 q.xt,.int .i64 q.fl]
def wds (l : List Wr) : List Value:=l.flatMap wcell
theorem wds_cons (q : Wr) (l : List Wr) : wds (q :: l) = .string (strB q.nm) :: .int .i64 q.xt :: .int .i64 q.fl :: wds l:=rfl
theorem wds_len (l : List Wr) : (wds l).length = l.length * 3:=by
  induction l with
  | nil => rfl
  | cons q l ih => rw [wds_cons]; simp [ih]; omega
theorem wds_one (l : List Wr) : ∀ v ∈ wds l,v.oneCell' = true:=by
  intro v hv;unfold wds at hv;rw [List.mem_flatMap] at hv;obtain ⟨q,_,hv⟩:=hv;unfold wcell at hv;simp at hv
  rcases hv with rfl | rfl | rfl <;> rfl
theorem wds_app (a b : List Wr) : wds (a ++ b) = wds a ++ wds b:=by simp [wds]
theorem wds_at {l : List Wr} : ∀ {j : Nat} (h : j < l.length),(wds l)[3 * j]? = some (.string (strB l[j].nm)) ∧ (wds l)[3 * j + 1]? = some (.int .i64 l[j].xt) ∧ (wds l)[3 * j + 2]? = some (.int .i64 l[j].fl):=by
  induction l with
  | nil => intro j h; simp at h
  | cons q l ih =>
    intro j h;rw [wds_cons];cases j with
    | zero => exact ⟨rfl,rfl,rfl⟩
    | succ j =>
      have:=ih (j:=j) (by simpa using h);rw [show 3 * (j + 1) = 3 * j + 1 + 1 + 1 by omega];simpa using this
def Wds (w : World) (v : Value) (l : List Wr) : Prop:=∃ A c,v = .slice A l.length c ∧ l.length ≤ c ∧ c ≤ maxLen ∧ Lies w A (wds l)
theorem Wds.keep {w w' : World} {v : Value} {l : List Wr} (h : Wds w v l) (b : Below w.heap.size w w') : Wds w' v l:=by
  obtain ⟨A,c,h1,h2,h3,h4⟩:=h;exact ⟨A,c,h1,h2,h3,h4.keep b⟩
theorem wds_nil (w : World) : Wds w (.slice none 0 0) []:=⟨none,0,rfl,Nat.le_refl _,Nat.zero_le _,.inl rfl⟩
theorem wds_block {w : World} {g : Nat} {l : List Wr} {t : TypeId} (h : w.heap[g]? = some (.cells (wds l).toArray t (0,0))) (hl : l.length ≤ 65536) : Wds w (.slice (some ⟨g,0,none⟩) l.length l.length) l :=
  ⟨_,_,rfl,Nat.le_refl _,by unfold maxLen; omega,lies_block h⟩
theorem Wds.len {w : World} {A : Option Addr} {n c : Nat} {l : List Wr} (h : Wds w (.slice A n c) l) : l.length = n:=by
  obtain ⟨A',c',e,_⟩:=h;injection e with _ e _
  exact e.symm
theorem Wds.lies {w : World} {A : Option Addr} {n c : Nat} {l : List Wr} (h : Wds w (.slice A n c) l) : Lies w A (wds l):=by
  obtain ⟨A',c',e,_,_,hl⟩:=h;injection e with e _ _
  subst e;exact hl
theorem wds_cell {w : World} {A : Option Addr} {n c : Nat} {l : List Wr} (h : Wds w (.slice A n c) l) {k : Nat} (hk : k < l.length) : ∃ g o,A = some ⟨g,o,none⟩ ∧ w.cell? ⟨g,o + k * 3,none⟩ = some (.string (strB l[k].nm)) ∧ w.cell? ⟨g,o + k * 3 + 1,none⟩ = some (.int .i64 l[k].xt) ∧ w.cell? ⟨g,o + k * 3 + 2,none⟩ = some (.int .i64 l[k].fl):=by
  rcases h.lies with h | ⟨g,o,e,_,hc⟩
  · have:=congrArg List.length h
    rw [wds_len] at this;have h0 : l.length * 3 = 0:=this;omega
  · obtain ⟨h1,h2,h3⟩:=wds_at hk
    have e1 : o + k * 3 = o + 3 * k:=by omega
    have e2 : o + k * 3 + 1 = o + (3 * k + 1):=by omega
    have e3 : o + k * 3 + 2 = o + (3 * k + 2):=by omega
    exact ⟨g,o,e,by rw [e1]; exact hc _ _ h1,by rw [e2]; exact hc _ _ h2,by rw [e3]; exact hc _ _ h3⟩
abbrev WOwns (w : World) (base : Nat) (v : Value) (n : Nat) (l : List Wr) : Prop:=w.ownsRow base 81 3 v n (wds l)
theorem WOwns.wds {w : World} {base n : Nat} {v : Value} {l : List Wr} (h : WOwns w base v n l) : Wds w v l:=by
  have hl:=h.1;rw [wds_len] at hl;have hl : l.length = n:=by omega
  subst hl
  rcases h.2 with ⟨rfl,h0⟩ | ⟨g,cap,cur,rfl,_,hg,hnc,hcm,_,ht⟩
  · have : l = []:=List.eq_nil_of_length_eq_zero h0
    subst this;exact wds_nil w
  · refine ⟨some ⟨g,0,none⟩,cap,rfl,hnc,hcm,.inr ⟨g,0,rfl,(Array.getElem?_eq_some_iff.1 hg).1,fun j x hx => ?_⟩⟩
    rw [← ht,List.getElem?_take] at hx
    split at hx
    · rw [Nat.zero_add]
      simp [World.cell?,hg];simpa using hx
    · cases hx
theorem WOwns.alloc {w : World} {base n : Nat} {v : Value} {l : List Wr} (h : WOwns w base v n l) (o : Obj) : WOwns (w.alloc o) base v n l:=World.ownsRow.alloc h o
theorem WOwns.keep {w w' : World} {base n : Nat} {v : Value} {l : List Wr} (h : WOwns w base v n l) (b : Below w.heap.size w w') : WOwns w' base v n l:=by
  refine ⟨h.1,?_⟩
  rcases h.2 with h2 | ⟨g,cap,cur,e,hb,hg,h3,h4,h5,h6⟩
  · exact .inl h2
  · exact .inr ⟨g,cap,cur,e,hb,(b.block g (Array.getElem?_eq_some_iff.1 hg).1).trans hg,h3,h4,h5,h6⟩
theorem wown_from {w : World} {base e size n : Nat} {v : Value} {xs : List Value} (h : w.ownsRow base e size v n xs) : ∀ k,v.ownBlock = some k → base ≤ k:=fun k hk => (h.lt k hk).1
theorem run_wapp {w : World} (ty : TypeId) {base n : Nat} {v : Value} {xs : List Wr} (hown : WOwns w base v n xs) {A : Option Addr} {m c : Nat} {ys : List Wr} (hr : Wds w (.slice A m c) ys) (h63 : n + m ≤ 1000000) (hbase : base ≤ w.heap.size) :
    ∃ v' w',(Builtin.append_ #[31,31] ty #[v,.slice A m c]).run Tryz.prog w = .ok v' w' ∧ WOwns w' base v' (n + m) (xs ++ ys) ∧ w.grownBy w' v.ownBlock:=by
  obtain ⟨i0,hi,hz0,hz1,hz2⟩:=info_parts info_word;have h1:=hr.len;have h4:=hr.lies;cases A with
  | some ad =>
    have hsrc : ∀ j u,(wds ys)[j]? = some u → w.cell? (ad.add j) = some u:=by
      intro j u hu
      rcases h4 with h4 | ⟨g,o,e,_,hc⟩
      · rw [h4] at hu; simp at hu
      · injection e with e
        rw [e,add_at];exact hc j u hu
    obtain ⟨v',w',ha,hb,hc,_⟩:=run_append_own (P:=Tryz.prog) w base 31 ty 81 i0 (.agg #[.string ⟨#[]⟩,.int .i64 0,.int .i64 0]) 3 32 Tryz.underlying31 hi hz0 hz1 hz2 rfl (by decide) v n (wds xs) hown ad m c (wds ys) (by rw [wds_len,h1]) hsrc (wds_one ys) (by unfold maxLen; omega) (by omega) hbase;exact ⟨v',w',ha,by have e:=wds_app xs ys; unfold WOwns; rw [e]; exact hb,hc⟩
  | none =>
    have hnil : ys = []:=by
      rcases h4 with h | ⟨_,_,h,_⟩
      · have:=congrArg List.length h
        rw [wds_len] at this;have h0 : ys.length * 3 = 0:=this;exact List.eq_nil_of_length_eq_zero (by omega)
      · cases h
    subst hnil;have hm : m = 0:=by rw [← h1]; rfl
    subst hm;refine ⟨v,w,?_,by simpa using hown,World.grownBy.refl w _⟩
    rcases hown.2 with ⟨rfl,rfl⟩ | ⟨g,cap,cur,rfl,_,_,hnc,_⟩
    · simp [Builtin.append_,run_underlying Tryz.underlying31,sizeOf,typeInfo,hi,Builtin.lenOf,Builtin.firstCells]
    · simp [Builtin.append_,run_underlying Tryz.underlying31,sizeOf,typeInfo,hi,Builtin.lenOf,Builtin.firstCells,hnc,storeCells]
theorem wapp_below {w0 w w' : World} {base n : Nat} {v : Value} {xs : List Wr} (hown : WOwns w base v n xs) (hb : Below w0.heap.size w0 w) (hg : w.grownBy w' v.ownBlock) (hB : w0.heap.size ≤ base) : Below w0.heap.size w0 w' :=
  hb.grown hg hb.size (fun k hk => Nat.le_trans hB (wown_from hown k hk))
theorem wp_wapp {o : Oper} {a : Act} {K : Act → World → Prop} {Q : Exit → Act → World → Prop} {w : World} (s x : Operand)
    (ho : o.op = .call { callee:=.builtin .append,args:=#[s,x],argTypes:=#[31,31] })
    (base : Nat) (v : Value) (n : Nat) (xs : List Wr) (hs : a.eval s = v) (hown : WOwns w base v n xs)
    (A : Option Addr) (m c : Nat) (ys : List Wr) (hx : a.eval x = .slice A m c) (hr : Wds w (.slice A m c) ys) (h63 : n + m ≤ 1000000) (hbase : base ≤ w.heap.size)
    (w0 : World) (hb : Below w0.heap.size w0 w) (hB : w0.heap.size ≤ base)
    (h : ∀ v' w',WOwns w' base v' (n + m) (xs ++ ys) → Below w0.heap.size w0 w' → w.grownBy w' v.ownBlock → K (a.put o.dst v') w') : o.wp Tryz.prog a w K Q:=by
  obtain ⟨v',w',hr,h2,h3⟩:=run_wapp o.type hown hr h63 hbase;unfold Oper.wp execOp;simp only [ho,resolve,invoke,builtin,Sem.run_bind,Sem.run_pure,Result.andThen_ok,List.map_toArray,List.map_cons,List.map_nil,hs,hx,hr];exact h v' w' h2 (wapp_below hown hb h3 hB) h3


def solid (c : UInt8) : Bool:=decide (32 < c.toNat)
def wordW : List UInt8 → List UInt8
  | [] => []
  | c :: r => if solid c = true then c :: r.takeWhile solid else wordW r
def wordT : List UInt8 → List UInt8
  | [] => []
  | c :: r => if solid c = true then (r.dropWhile solid).drop 1 else wordT r
def notC (c x : UInt8) : Bool:=decide (x ≠ c)
def uptoW (r : List UInt8) (c : UInt8) : List UInt8:=r.takeWhile (notC c)


def WInv (R u rest : List UInt8) : Prop:=(u = [] → wordW R = wordW rest ∧ wordT R = wordT rest) ∧ (u ≠ [] → wordW R = u ++ rest.takeWhile solid ∧ wordT R = (rest.dropWhile solid).drop 1)
theorem WInv.first (R : List UInt8) : WInv R [] R:=⟨fun _ => ⟨rfl,rfl⟩,fun h => absurd rfl h⟩
theorem WInv.sign {R u rest : List UInt8} {c : UInt8} (h : WInv R u (c :: rest)) (hc : solid c = true) : WInv R (u ++ [c]) rest:=by
  refine ⟨fun e => by simp at e,fun _ => ?_⟩
  by_cases hu : u = []
  · obtain ⟨h1,h2⟩:=h.1 hu
    rw [h1,h2,hu];unfold wordW wordT;rw [if_pos hc,if_pos hc];exact ⟨rfl,rfl⟩
  · obtain ⟨h1,h2⟩:=h.2 hu
    rw [h1,h2,List.takeWhile_cons,List.dropWhile_cons,if_pos hc,if_pos hc];simp
theorem WInv.skip {R rest : List UInt8} {c : UInt8} (h : WInv R [] (c :: rest)) (hc : solid c = false) : WInv R [] rest:=by
  refine ⟨fun _ => ?_,fun e => absurd rfl e⟩;obtain ⟨h1,h2⟩:=h.1 rfl;rw [h1,h2]
  conv => lhs; lhs; unfold wordW
  conv => rhs; lhs; unfold wordT
  rw [if_neg (by simp [hc]),if_neg (by simp [hc])];exact ⟨rfl,rfl⟩
theorem WInv.last {R u : List UInt8} (h : WInv R u []) : wordW R = u ∧ wordT R = []:=by
  by_cases hu : u = []
  · obtain ⟨h1,h2⟩:=h.1 hu
    rw [h1,h2,hu];exact ⟨rfl,rfl⟩
  · obtain ⟨h1,h2⟩:=h.2 hu
    rw [h1,h2];simp
theorem str_toList (l : List UInt8) : (strB l).toList = l:=by
  rw [ByteArray.toList_eq]; rfl
def UInv (R : List UInt8) (c : UInt8) (m : Nat) : Prop:=uptoW R c = R.take m ++ uptoW (R.drop m) c ∧ (c ∈ R ↔ c ∈ R.drop m)
theorem UInv.first (R : List UInt8) (c : UInt8) : UInv R c 0:=⟨by simp,by simp⟩
theorem UInv.on {R : List UInt8} {c x : UInt8} {m : Nat} (h : UInv R c m) (hx : R[m]? = some x) (hne : x ≠ c) : UInv R c (m + 1):=by
  have hm:=(List.getElem?_eq_some_iff.1 hx).1;have e : R.drop m = x :: R.drop (m + 1):=by rw [List.drop_eq_getElem_cons hm,(List.getElem?_eq_some_iff.1 hx).2]
  obtain ⟨h1,h2⟩:=h;rw [e] at h1 h2;refine ⟨?_,?_⟩
  · rw [h1,List.take_add_one,hx]
    unfold uptoW;rw [List.takeWhile_cons,if_pos (by unfold notC; simpa using hne)];simp
  · rw [h2]
    simp;intro e;exact absurd e.symm hne
theorem UInv.no {R : List UInt8} {c : UInt8} {m : Nat} (h : UInv R c m) (hm : R.length ≤ m) : uptoW R c = R ∧ ¬ c ∈ R:=by
  obtain ⟨h1,h2⟩:=h;rw [List.drop_eq_nil_of_le hm] at h1 h2;refine ⟨?_,fun hc => by simpa using h2.1 hc⟩;rw [h1,List.take_of_length_le hm];simp [uptoW]
theorem dropW_suf (p : UInt8 → Bool) (r : List UInt8) : ∃ n,n ≤ r.length ∧ r.dropWhile p = r.drop n:=by
  induction r with
  | nil => exact ⟨0,Nat.le_refl _,rfl⟩
  | cons c r ih =>
    rw [List.dropWhile_cons]
    split
    · obtain ⟨n,h1,h2⟩:=ih
      exact ⟨n + 1,by simp; omega,by rw [h2]; rfl⟩
    · exact ⟨0,Nat.zero_le _,rfl⟩
theorem wordT_suf (r : List UInt8) : ∃ n,n ≤ r.length ∧ wordT r = r.drop n:=by
  induction r with
  | nil => exact ⟨0,Nat.le_refl _,rfl⟩
  | cons c r ih =>
    unfold wordT
    split
    · obtain ⟨n,h1,h2⟩:=dropW_suf solid r
      rw [h2,List.drop_drop]
      by_cases h : n + 1 ≤ r.length
      · exact ⟨n + 1 + 1,by simp; omega,by rw [List.drop_succ_cons]⟩
      · refine ⟨r.length + 1,by simp,?_⟩
        rw [List.drop_eq_nil_of_le (by omega),List.drop_eq_nil_of_le (by simp)]
    · obtain ⟨n,h1,h2⟩:=ih
      exact ⟨n + 1,by simp; omega,by rw [h2]; rfl⟩
def Rem (l R : List UInt8) : Prop:=∃ k,k ≤ l.length ∧ R = l.drop k
theorem Rem.all (l : List UInt8) : Rem l l:=⟨0,Nat.zero_le _,rfl⟩
theorem Rem.word {l R : List UInt8} (h : Rem l R) : Rem l (wordT R):=by
  obtain ⟨k,hk,rfl⟩:=h;obtain ⟨n,h1,h2⟩:=wordT_suf (l.drop k);rw [List.length_drop] at h1;exact ⟨k + n,by omega,by rw [h2,List.drop_drop]⟩
theorem Rem.le {l R : List UInt8} (h : Rem l R) : R.length ≤ l.length:=by
  obtain ⟨k,hk,rfl⟩:=h;rw [List.length_drop];omega
theorem Rem.drop {l R : List UInt8} (h : Rem l R) : l.drop (l.length - R.length) = R:=by
  obtain ⟨k,hk,rfl⟩:=h;rw [List.length_drop]
  congr 1
  omega


def dSame (a b : List Wr) : Bool:=decide (a = b)
def w0 : Wr:=⟨[],0,0⟩


def WBox (w : World) (b : Nat) (q : Wr) : Prop:=w.heap[b]? = some (.cells #[.string (strB q.nm),.int .i64 q.xt,.int .i64 q.fl] 81 (0,0))
theorem WBox.lt {w : World} {b : Nat} {q : Wr} (h : WBox w b q) : b < w.heap.size:=(Array.getElem?_eq_some_iff.1 h).1
theorem WBox.keep {w w' : World} {b : Nat} {q : Wr} (h : WBox w b q) (k : Below w.heap.size w w') : WBox w' b q:=(k.block b h.lt).trans h
theorem WBox.use {w : World} {b : Nat} {q : Wr} (h : WBox w b q) : w.cell? ⟨b,0,none⟩ = some (.string (strB q.nm)) ∧ w.cell? ⟨b,1,none⟩ = some (.int .i64 q.xt) ∧ w.cell? ⟨b,2,none⟩ = some (.int .i64 q.fl) ∧ w.frozen? ⟨b,0,none⟩ = false ∧ w.frozen? ⟨b,1,none⟩ = false ∧ w.frozen? ⟨b,2,none⟩ = false:=by
  unfold WBox at h;refine ⟨?_,?_,?_,?_,?_,?_⟩ <;> simp [World.cell?,World.frozen?,h]
theorem WBox.put {w : World} {b : Nat} {q : Wr} (h : WBox w b q) (q' : Wr) : WBox (((w.setCell ⟨b,0,none⟩ (.string (strB q'.nm))).setCell ⟨b,1,none⟩ (.int .i64 q'.xt)).setCell ⟨b,2,none⟩ (.int .i64 q'.fl)) b q':=by
  have h1:=Go.Joins.block_setCell (i:=0) h (.string (strB q'.nm));have h2:=Go.Joins.block_setCell (i:=1) h1 (.int .i64 q'.xt);have h3:=Go.Joins.block_setCell (i:=2) h2 (.int .i64 q'.fl);simpa [WBox] using h3
end Go.Proofs.YtcmldhjicjmmgaaGreatDoor
