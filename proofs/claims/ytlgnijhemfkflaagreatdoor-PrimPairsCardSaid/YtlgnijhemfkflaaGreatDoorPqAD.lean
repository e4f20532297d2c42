/- Part 4. -/
import Derived.Test.YtlgnijhemfkflaaGreatDoorPqAC
import Derived.ProofKit
import Derived.OpenShut
import Derived.ShutString
import Derived.ChangeOld
import Derived.Deep.Slices
import Derived.Deep.Fields
import Derived.Deep.DeepCutAuto
import Derived.Deep.Cut
set_option linter.unusedVariables false
set_option linter.unusedSimpArgs false
set_option maxRecDepth 100000
set_option maxHeartbeats 4000000

namespace Go.Proofs.YtlgnijhemfkflaaGreatDoor
open Go.RowKit


theorem R2.drewN {w w1 : World} {A P A' P' : Option Addr} {L c K d L' c' K' d' : Nat} (h : R2 w A P A' P' L c K d L' c' K' d' w1) (i : Nat) : R2 w A P A' P' L c K d L' c' K' d' (w1.drewN i):=⟨h.1.trans (Go.Joins.below_draws _ _ _),h.2.1,h.2.2⟩
theorem str_neq {a b : ByteArray} (h : a ≠ b) : (a.toList != b.toList) = true:=by rw [bne,str_ne h]; rfl
theorem Byt.drewN {w : World} {v : Value} {l : List UInt8} (h : Byt w v l) (i : Nat) : Byt (w.drewN i) v l:=h
theorem rsame_at (A P A' P' : Option Addr) (L c K d L' c' K' d' : Nat) (m o : PM) (w : World) (HM : Hid (IsMem w (.agg #[.slice A L c,.slice P K d]) m)) (HO : Hid (IsMem w (.agg #[.slice A' L' c',.slice P' K' d']) o)) :
    Calls Tryz.prog 31 #[.agg #[.slice A L c,.slice P K d],.agg #[.slice A' L' c',.slice P' K' d']] w fun e w' => e = .returned (.bool (decide (m = o))) ∧ Below w.heap.size w w':=by
  have R0:=zqh (r2_new w A P A' P' L c K d L' c' K' d');have hk1:=HM.out.big.2;have hk2:=HO.out.big.2;unfold maxLen at hk1 hk2;have c1:=(HM.out.keep R0.out.bel).byt.conv;have c2:=(HO.out.keep R0.out.bel).byt.conv;have hz1 : w.heap.size < w.heap.size + 1:=by omega
  obtain ⟨R,hR⟩ : ∃ R,decide (m = o) = R:=⟨_,rfl⟩;rw [hR];have HR:=zqh hR;clear hR
  by_cases h1 : m.1 = o.1
  · rw [h1] at c1
    obtain ⟨s,hs⟩ : ∃ s,strB o.1 = s:=⟨_,rfl⟩;rw [hs] at c1 c2;have HR2 : Hid (R = decide (m.2 = o.2)):=by rw [← HR.out,pm_eq,decide_eq_true h1]; rfl
    clear hs
    by_cases hK : K = K'
    · subst hK
      have hKK : ((K : Int) != (K : Int)) = false:=by simp
      clear h1;go_enter Tryz.func31,Tryz.ntmps31;go_wp2;clear c1 c2
      go_loopw [5] (fun i wr => ∃ j : Nat,j ≤ K ∧ i = .int .i64 (j : Int) ∧ Hid (m.2.take j = o.2.take j) ∧ R2 w A P A' P' L c K d L' c' K d' wr) (fun i _ => K - (intOf i).toNat)
      case atStart => exact ⟨0,Nat.zero_le _,rfl,by simp [Hid],R0.out⟩
      case round =>
        obtain ⟨j,hj,rfl,hall,hr2⟩:=hrel
        by_cases hlt : j < K
        · obtain ⟨g,o1,B,n,e,p,rfl,hg,hp,hc1,hc2,hby,hn,hKd⟩:=mem_patch HM.out hlt
          obtain ⟨g',o1',B',n',e',p',rfl,hg',hp',hc1',hc2',hby',hn',hKd'⟩:=mem_patch HO.out hlt;have d1 : wr.cell? ⟨g,o1 + j * 2,none⟩ = some (.int .i64 p.1):=(hr2.bel.cell (p:=⟨g,o1 + j * 2,none⟩) hg).trans hc1;have d2 : wr.cell? ⟨g,o1 + j * 2 + 1,none⟩ = some (.slice B n e):=(hr2.bel.cell (p:=⟨g,o1 + j * 2 + 1,none⟩) hg).trans hc2;have d3 : wr.cell? ⟨g',o1' + j * 2,none⟩ = some (.int .i64 p'.1):=(hr2.bel.cell (p:=⟨g',o1' + j * 2,none⟩) hg').trans hc1';have d4 : wr.cell? ⟨g',o1' + j * 2 + 1,none⟩ = some (.slice B' n' e'):=(hr2.bel.cell (p:=⟨g',o1' + j * 2 + 1,none⟩) hg').trans hc2';obtain ⟨q0,q1,_,_⟩:=hr2.one.use;obtain ⟨q2,q3,_,_⟩:=hr2.two.use;have v1:=fun i => ((hby.keep hr2.bel).drewN i).conv
          have v2:=fun i => ((hby'.keep hr2.bel).drewN i).conv
          have HP:=zqh hp;have HP':=zqh hp';have HRR:=zqh hr2;have hji : (j : Int) < (K : Int):=by omega
          obtain ⟨a1,ha1⟩ : ∃ a1,p.1 = a1:=⟨_,rfl⟩;obtain ⟨a2,ha2⟩ : ∃ a2,p'.1 = a2:=⟨_,rfl⟩;rw [ha1] at d1;rw [ha2] at d3;have HA1:=zqh ha1;have HA2:=zqh ha2;clear hby hby' hp hp' hc1 hc2 hc1' hc2' hr2 ha1 ha2
          by_cases ha : a1 = a2
          · subst ha
            have hab : (a1 != a1) = false:=by simp
            by_cases hs : p.2 = p'.2
            · rw [hs] at v1
              generalize strB p'.2 = t at v1 v2;(go_wp2_with fail)
              go_quiet (fail)
              have HA : Hid (m.2.take (j + 1) = o.2.take (j + 1)):=take_eq_step hall.out HP.out HP'.out (by
                obtain ⟨x,y⟩:=p;obtain ⟨x',y'⟩:=p';have h1:=HA1.out;have h2:=HA2.out;simp only at h1 h2;simp only at hs
                rw [h1,h2,hs])
              have HF:=fun i => HRR.out.drewN i
              have HFF:=zqh HF;clear HF v1 v2 d1 d2 d3 d4 q0 q1 q2 q3;go_wp2
              go_roundw
              case rel => exact ⟨j + 1,by omega,by go_num,HA.out,HFF.out _⟩
              case measure => simp [intOf]; omega
            · have HA : Hid (R = false):=by
                rw [HR2.out,decide_eq_false_iff_not];intro e;have x1:=HP.out;rw [e,HP'.out] at x1;injection x1 with x1
                rw [x1] at hs;exact hs rfl
              have hne : strB p.2 ≠ strB p'.2:=fun h => hs (strB_inj h)
              generalize strB p.2 = t1 at v1 hne;generalize strB p'.2 = t2 at v2 hne;have hne':=str_neq hne;have hne2:=str_ne hne;clear hs hne;(go_wp2_with fail)
              go_quiet (fail)
              have HF:=fun i => HRR.out.drewN i
              have HFF:=zqh HF;clear HF v1 v2 d1 d2 d3 d4 q0 q1 q2 q3;go_wp2;go_ret;exact ⟨ret_bool HA.out.symm,(HFF.out _).bel⟩
          · have hab : (a1 != a2) = true:=by simp [ha]
            have HA : Hid (R = false):=by
              rw [HR2.out,decide_eq_false_iff_not];intro e;have x1:=HP.out;rw [e,HP'.out] at x1;injection x1 with x1
              rw [x1] at HA2;exact ha (HA1.out.symm.trans HA2.out)
            clear ha;(go_wp2_with fail)
            go_quiet (fail)
            have HF:=fun i => HRR.out.drewN i
            have HFF:=zqh HF;clear HF v1 v2 d1 d2 d3 d4 q0 q1 q2 q3;go_wp2;go_ret;exact ⟨ret_bool HA.out.symm,(HFF.out _).bel⟩
        · have hjk : j = K:=by omega
          subst hjk;have HA : Hid (R = true):=by
            have x1:=HM.out.len2;have x2:=HO.out.len2;have x3:=hall.out;rw [List.take_of_length_le (by omega),List.take_of_length_le (by omega)] at x3;rw [HR2.out,decide_eq_true x3];rfl
          obtain ⟨q0,q1,_,_⟩:=hr2.one.use;have HRR:=zqh hr2;clear hr2;go_wp2;go_ret;exact ⟨ret_bool HA.out.symm,HRR.out.bel⟩
    · have HA : Hid (R = false):=by
        rw [HR2.out,decide_eq_false_iff_not];intro e;have x1:=HM.out.len2;have x2:=HO.out.len2;rw [e] at x1;omega
      have hKK : ((K : Int) != (K' : Int)) = true:=by simp; omega
      clear h1 hK;go_enter Tryz.func31,Tryz.ntmps31;go_wp2;go_ret;exact ⟨ret_bool HA.out.symm,R0.out.bel⟩
  · have HA : Hid (R = false):=by rw [← HR.out,pm_eq,decide_eq_false h1]; rfl
    have hne : strB m.1 ≠ strB o.1:=fun h => h1 (strB_inj h)
    generalize strB m.1 = t1 at c1 hne;generalize strB o.1 = t2 at c2 hne;have hne':=str_neq hne;have hne2:=str_ne hne;clear h1 hne;go_enter Tryz.func31,Tryz.ntmps31;go_wp2;go_ret;exact ⟨ret_bool HA.out.symm,R0.out.bel⟩
end Go.Proofs.YtlgnijhemfkflaaGreatDoor

namespace Go.Proofs.YtlgnijhemfkflaaGreatDoor
open Go.RowKit


def sm : PM:=newF 16
def sx : PM:=storeF sm 8 258
theorem s1 : newC 16 = 0:=by decide +kernel
theorem s2 : sm.1.length = 16 ∧ sm.2.length = 0 ∧ sx.1.length = 16 ∧ sx.2.length = 1:=by decide +kernel
theorem s3 : cellC 16 8 = 0 ∧ cellC 16 9 = -9 ∧ cellC 16 4 = -23:=by decide +kernel
theorem s4 : fetchF sx 8 = 258:=by decide +kernel
theorem s5 : backC sx 0 = 0 ∧ backF sx 0 = sm:=by decide +kernel
theorem s6 : codeF (okB 16 8 2) = 0 ∧ textF sx 8 2 = [2,1] ∧ codeF (okB 16 8 1) = 0 ∧ byteF sx 8 = 2:=by decide +kernel
theorem s7 : rightB sx = true ∧ rightB ([1],[]) = false ∧ decide (sm = sm) = true ∧ decide (sx = sm) = false:=by decide +kernel
def At (b : Nat) (A P : Option Addr) (L c K d : Nat) (m : PM) (w : World) : Prop:=Box w b (.slice A L c) (.slice P K d) 27 ∧ IsMem w (.agg #[.slice A L c,.slice P K d]) m
theorem At.keep {b : Nat} {A P : Option Addr} {L c K d : Nat} {m : PM} {w w' : World} (h : At b A P L c K d m w) (k : Below w.heap.size w w') : At b A P L c K d m w':=⟨h.1.keep k,h.2.keep k⟩
theorem At.mem {b : Nat} {A P : Option Addr} {L c K d : Nat} {m : PM} {w : World} (h : At b A P L c K d m w) : IsMem w (.agg #[.slice A L c,.slice P K d]) m:=h.2
theorem At.use {b : Nat} {A P : Option Addr} {L c K d : Nat} {m : PM} {w : World} (h : At b A P L c K d m w) : w.cell? ⟨b,0,none⟩ = some (.slice A L c) ∧ w.cell? ⟨b,1,none⟩ = some (.slice P K d):=⟨h.1.use.1,h.1.use.2.1⟩
theorem At.lt {b : Nat} {A P : Option Addr} {L c K d : Nat} {m : PM} {w : World} (h : At b A P L c K d m w) : b < w.heap.size:=h.1.lt
theorem at_new {A P : Option Addr} {L c K d : Nat} {m : PM} {w : World} (h : IsMem w (.agg #[.slice A L c,.slice P K d]) m) : At w.heap.size A P L c K d m (w.alloc (.cells #[.slice A L c,.slice P K d] 27)):=⟨box_new _ _ _ _,h.keep ((Below.refl _ _).alloc (Nat.le_refl _) _)⟩
theorem al_one (w : World) (o : Obj) : Below w.heap.size w (w.alloc o):=(Below.refl _ _).alloc (Nat.le_refl _) o
end Go.Proofs.YtlgnijhemfkflaaGreatDoor

namespace Go.Proofs.YtlgnijhemfkflaaGreatDoor
open Go.RowKit


def Z3 (w : World) (b1 b2 b3 : Nat) (A P A2 P2 A3 P3 : Option Addr) (L c K d L2 c2 K2 d2 L3 c3 K3 d3 : Nat) (m x y : PM) (w' : World) : Prop:=Below w.heap.size w w' ∧ At b1 A P L c K d m w' ∧ At b2 A2 P2 L2 c2 K2 d2 x w' ∧ At b3 A3 P3 L3 c3 K3 d3 y w'
section
variable {w w1 w2 : World} {b1 b2 b3 : Nat} {A P A2 P2 A3 P3 : Option Addr} {L c K d L2 c2 K2 d2 L3 c3 K3 d3 : Nat} {m x y : PM}
theorem Z3.keep (h : Z3 w b1 b2 b3 A P A2 P2 A3 P3 L c K d L2 c2 K2 d2 L3 c3 K3 d3 m x y w1) (b : Below w1.heap.size w1 w2) : Z3 w b1 b2 b3 A P A2 P2 A3 P3 L c K d L2 c2 K2 d2 L3 c3 K3 d3 m x y w2:=⟨below_then h.1 b,h.2.1.keep b,h.2.2.1.keep b,h.2.2.2.keep b⟩
theorem Z3.drew (h : Z3 w b1 b2 b3 A P A2 P2 A3 P3 L c K d L2 c2 K2 d2 L3 c3 K3 d3 m x y w1) : Z3 w b1 b2 b3 A P A2 P2 A3 P3 L c K d L2 c2 K2 d2 L3 c3 K3 d3 m x y w1.drew:=⟨h.1.drew,h.2.1,h.2.2.1,h.2.2.2⟩
theorem Z3.bel (h : Z3 w b1 b2 b3 A P A2 P2 A3 P3 L c K d L2 c2 K2 d2 L3 c3 K3 d3 m x y w1) : Below w.heap.size w w1:=h.1
theorem Z3.one (h : Z3 w b1 b2 b3 A P A2 P2 A3 P3 L c K d L2 c2 K2 d2 L3 c3 K3 d3 m x y w1) : IsMem w1 (.agg #[.slice A L c,.slice P K d]) m:=h.2.1.mem
theorem Z3.two (h : Z3 w b1 b2 b3 A P A2 P2 A3 P3 L c K d L2 c2 K2 d2 L3 c3 K3 d3 m x y w1) : IsMem w1 (.agg #[.slice A2 L2 c2,.slice P2 K2 d2]) x:=h.2.2.1.mem
theorem Z3.three (h : Z3 w b1 b2 b3 A P A2 P2 A3 P3 L c K d L2 c2 K2 d2 L3 c3 K3 d3 m x y w1) : IsMem w1 (.agg #[.slice A3 L3 c3,.slice P3 K3 d3]) y:=h.2.2.2.mem
theorem Z3.free (h : Z3 w b1 b2 b3 A P A2 P2 A3 P3 L c K d L2 c2 K2 d2 L3 c3 K3 d3 m x y w1) : IsMem w1 (.agg #[.slice A L c,.slice none 0 0]) (m.1,[]):=mem_mk h.2.1.mem.byt (pats_nil _)
end
end Go.Proofs.YtlgnijhemfkflaaGreatDoor

namespace Go.Proofs.YtlgnijhemfkflaaGreatDoor
open Go.RowKit


abbrev BOwns (w : World) (base : Nat) (v : Value) (n : Nat) (l : List UInt8) : Prop:=w.ownsRow base 5 1 v n (u8s l)
theorem BOwns.byt {w : World} {base n : Nat} {v : Value} {l : List UInt8} (h : BOwns w base v n l) : Byt w v l:=own_byt h
theorem BOwns.len {w : World} {base n : Nat} {v : Value} {l : List UInt8} (h : BOwns w base v n l) : l.length = n:=by
  have hl:=h.1;rw [u8s_len,Nat.mul_one] at hl;exact hl
theorem BOwns.alloc {w : World} {base n : Nat} {v : Value} {l : List UInt8} (h : BOwns w base v n l) (o : Obj) : BOwns (w.alloc o) base v n l:=World.ownsRow.alloc h o
theorem bowns_none (w : World) (base : Nat) : BOwns w base (.slice none 0 0) 0 []:=⟨rfl,.inl ⟨rfl,rfl⟩⟩
theorem run_bapp {w : World} (ty : TypeId) {base n : Nat} {v : Value} {xs : List UInt8} (hown : BOwns w base v n xs) {A : Option Addr} {m c : Nat} {ys : List UInt8} (hr : Byt w (.slice A m c) ys) (h63 : n + m ≤ 1000000) (hbase : base ≤ w.heap.size) :
    ∃ v' w',(Builtin.append_ #[24,24] ty #[v,.slice A m c]).run Tryz.prog w = .ok v' w' ∧ BOwns w' base v' (n + m) (xs ++ ys) ∧ w.grownBy w' v.ownBlock:=by
  obtain ⟨i0,hi,hz0,hz1,hz2⟩:=info_parts info_u8;have h1:=hr.len;have h4:=hr.lies;cases A with
  | some ad =>
    have hsrc : ∀ j u,(u8s ys)[j]? = some u → w.cell? (ad.add j) = some u:=by
      intro j u hu
      rcases h4 with h4 | ⟨g,o,e,_,hc⟩
      · rw [h4] at hu; simp at hu
      · injection e with e
        rw [e,add_at];exact hc j u hu
    obtain ⟨v',w',ha,hb,hc,_⟩:=run_append_own (P:=Tryz.prog) w base 24 ty 5 i0 (.int .u8 0) 1 1 Tryz.underlying24 hi hz0 hz1 hz2 rfl (by decide) v n (u8s xs) hown ad m c (u8s ys) (by rw [u8s_len,h1,Nat.mul_one]) hsrc (u8s_one ys) (by unfold maxLen; omega) (by omega) hbase;exact ⟨v',w',ha,by have e:=u8s_app xs ys; unfold BOwns; rw [e]; exact hb,hc⟩
  | none =>
    have hnil : ys = []:=by
      rcases h4 with h | ⟨_,_,h,_⟩
      · have:=congrArg List.length h
        rw [u8s_len] at this;exact List.eq_nil_of_length_eq_zero this
      · cases h
    subst hnil;have hm : m = 0:=by rw [← h1]; rfl
    subst hm;refine ⟨v,w,?_,by simpa using hown,World.grownBy.refl w _⟩
    rcases hown.2 with ⟨rfl,rfl⟩ | ⟨g,cap,cur,rfl,_,_,hnc,_⟩
    · simp [Builtin.append_,run_underlying Tryz.underlying24,sizeOf,typeInfo,hi,Builtin.lenOf,Builtin.firstCells]
    · simp [Builtin.append_,run_underlying Tryz.underlying24,sizeOf,typeInfo,hi,Builtin.lenOf,Builtin.firstCells,hnc,storeCells]
theorem bapp_below {w0 w w' : World} {base n : Nat} {v : Value} {xs : List UInt8} (hown : BOwns w base v n xs) (hb : Below w0.heap.size w0 w) (hg : w.grownBy w' v.ownBlock) (hB : w0.heap.size ≤ base) : Below w0.heap.size w0 w' :=
  hb.grown hg hb.size (fun k hk => Nat.le_trans hB (own_from hown k hk))
theorem wp_bapp {o : Oper} {a : Act} {K : Act → World → Prop} {Q : Exit → Act → World → Prop} {w : World} (s x : Operand)
    (ho : o.op = .call { callee:=.builtin .append,args:=#[s,x],argTypes:=#[24,24] })
    (base : Nat) (v : Value) (n : Nat) (xs : List UInt8) (hs : a.eval s = v) (hown : BOwns w base v n xs)
    (A : Option Addr) (m c : Nat) (ys : List UInt8) (hx : a.eval x = .slice A m c) (hr : Byt w (.slice A m c) ys) (h63 : n + m ≤ 1000000) (hbase : base ≤ w.heap.size)
    (w0 : World) (hb : Below w0.heap.size w0 w) (hB : w0.heap.size ≤ base)
    (h : ∀ v' w',BOwns w' base v' (n + m) (xs ++ ys) → Below w0.heap.size w0 w' → w.grownBy w' v.ownBlock → K (a.put o.dst v') w') : o.wp Tryz.prog a w K Q:=by
  obtain ⟨v',w',hr,h2,h3⟩:=run_bapp o.type hown hr h63 hbase;unfold Oper.wp execOp;simp only [ho,resolve,invoke,builtin,Sem.run_bind,Sem.run_pure,Result.andThen_ok,List.map_toArray,List.map_cons,List.map_nil,hs,hx,hr];exact h v' w' h2 (bapp_below hown hb h3 hB) h3
theorem wpList_bapp {ops : Array Oper} {rest : List Oper} {o : Oper} {a : Act} {Q : Exit → Act → World → Prop} {w : World} (hgd : o.guard = none) (s x : Operand)
    (ho : o.op = .call { callee:=.builtin .append,args:=#[s,x],argTypes:=#[24,24] })
    (base : Nat) (v : Value) (n : Nat) (xs : List UInt8) (hs : a.eval s = v) (hown : BOwns w base v n xs)
    (A : Option Addr) (m c : Nat) (ys : List UInt8) (hx : a.eval x = .slice A m c) (hr : Byt w (.slice A m c) ys) (h63 : n + m ≤ 1000000) (hbase : base ≤ w.heap.size)
    (w0 : World) (hb : Below w0.heap.size w0 w) (hB : w0.heap.size ≤ base)
    (h : ∀ v' w',BOwns w' base v' (n + m) (xs ++ ys) → Below w0.heap.size w0 w' → w.grownBy w' v.ownBlock → wpList Tryz.prog ops Q rest (a.put o.dst v') w') : wpList Tryz.prog ops Q (o :: rest) a w :=
  wpList_plain hgd fun _ hK => wp_bapp s x ho base v n xs hs hown A m c ys hx hr h63 hbase w0 hb hB fun v' w' h2 h3 h4 => hK _ _ (h v' w' h2 h3 h4)
theorem none_bowns (w : World) : BOwns (w.alloc (.cells #[] 5)) w.heap.size (.slice (some ⟨w.heap.size,0,none⟩) 0 0) 0 []:=World.ownsRow_lit w #[] 0 (Nat.le_refl _) (by unfold maxLen; omega) rfl
theorem Box.grown {w w' : World} {b : Nat} {x y : Value} {t : TypeId} {row : Option Nat} (h : Box w b x y t) (hg : w.grownBy w' row) (hne : some b ≠ row) : Box w' b x y t:=(hg.block b h.lt hne).trans h
theorem Box.keep_h {w0 w w' : World} {b : Nat} {x y : Value} {t : TypeId} (h : Box w0 b x y t) (hg : Below w.heap.size w w') (hh : w0.heap = w.heap) : Box w' b x y t:=by
  have h' : Box w b x y t:=by unfold Box at h ⊢; rw [← hh]; exact h
  exact h'.keep hg
theorem since_d (w : World) : Below w.heap.size w w.drew:=⟨rfl,rfl,rfl,Nat.le_refl _,fun _ _ => rfl⟩
theorem since_ad (w : World) (o : Obj) : Below w.heap.size w (w.alloc o).drew:=(al_one w o).trans ⟨rfl,rfl,rfl,Nat.le_refl _,fun _ _ => rfl⟩
theorem since_aa {w w1 : World} (b : Below w.heap.size w w1) (o : Obj) : Below w.heap.size w (w1.alloc o):=b.alloc b.size o
end Go.Proofs.YtlgnijhemfkflaaGreatDoor

namespace Go.Proofs.YtlgnijhemfkflaaGreatDoor
open Go.RowKit


theorem dig_u8 (n : Nat) : digF (n : Int) = ((UInt8.ofNat (digN n)).toNat : Int):=by
  unfold digF;rw [if_pos (by omega),digN_u8,Int.toNat_natCast]
def Rest (b u0 u : Nat) (l : List UInt8) : Prop:=(b ≤ u → usF b u0 = usF b (u / b) ++ l) ∧ (u < b → usF b u0 = l)
theorem us_le {b : Nat} (h2 : 2 ≤ b) : ∀ j u,u < 2 ^ (j + 1) → (usF b u).length ≤ j + 1:=by
  intro j
  induction j with
  | zero =>
    intro u hu;rw [usF_low (by omega)];simp
  | succ j ih =>
    intro u hu
    by_cases h : b ≤ u
    · rw [usF_big h2 h,List.length_append]
      have hd : u / b < 2 ^ (j + 1):=by
        rw [Nat.div_lt_iff_lt_mul (by omega)];have e : 2 ^ (j + 1 + 1) = 2 ^ (j + 1) * 2:=Nat.pow_succ _ _;have : 2 ^ (j + 1) * 2 ≤ 2 ^ (j + 1) * b:=Nat.mul_le_mul_left _ h2;omega
      have:=ih _ hd;simp;omega
    · rw [usF_low (by omega)]
      simp
theorem Rest.len {b u0 u : Nat} {l : List UInt8} (h2 : 2 ≤ b) (h : Rest b u0 u l) (h0 : u0 < 18446744073709551616) : l.length ≤ 64:=by
  have hl:=us_le h2 63 u0 (by omega)
  by_cases hu : b ≤ u
  · rw [h.1 hu,List.length_append] at hl
    omega
  · rw [h.2 (by omega)] at hl
    exact hl
theorem ushow_len (n b : Int) : (ushowF n b).length ≤ 64:=by
  unfold ushowF
  split
  · rename_i h
    have:=(baseB_iff b).1 h;exact us_le (by omega) 63 _ (by have:=un_lt n; omega)
  · simp
theorem alloc_then {w w1 : World} {o : Obj} (b : Below w.heap.size w w1) : Below w.heap.size w (w1.alloc o):=b.alloc b.size o
end Go.Proofs.YtlgnijhemfkflaaGreatDoor

namespace Go.Proofs.YtlgnijhemfkflaaGreatDoor
open Go.RowKit


theorem drewN_belowW (w : World) (n : Nat) : Below w.heap.size w (w.drewN n):=⟨rfl,rfl,rfl,Nat.le_refl _,fun _ _ => rfl⟩
theorem info_word : (Tryz.prog.info? 120).map (fun i => (i.zero,i.size,i.bytes)) = some (some (.agg #[.string ⟨#[]⟩,.int .i64 0,.int .i64 0]),3,32):=by kernel_rfl
structure Wr where
  nm : List UInt8
  xt : Int
  fl : Int
  deriving DecidableEq
def wcell (q : Wr) : List Value:=[.string (strB q.nm),.int .i64 q.xt,.int .i64 q.fl]
def wds (l : List Wr) : List Value:=l.flatMap wcell
theorem wds_cons (q : Wr) (l : List Wr) : wds (q :: l) = .string (strB q.nm) :: .int .i64 q.xt :: .int .i64 q.fl :: wds l:=rfl
theorem wds_len (l : List Wr) : (wds l).length = l.length * 3:=by
  induction l with
  | nil => rfl
  | cons q l ih => rw [wds_cons]; simp [ih]; omega
theorem wds_one (l : List Wr) : ∀ v ∈ wds l,v.oneCell' = true:=by
  intro v hv;unfold wds at hv;rw [List.mem_flatMap] at hv;obtain ⟨q,_,hv⟩:=hv;unfold wcell at hv;simp at hv
  rcases hv with rfl | rfl | rfl <;> rfl
theorem wds_app (a b : List Wr) : wds (a ++ b) = wds a ++ wds b:=by simp [wds]
theorem wds_at {l : List Wr} : ∀ {j : Nat} (h : j < l.length),(wds l)[3 * j]? = some (.string (strB l[j].nm)) ∧ (wds l)[3 * j + 1]? = some (.int .i64 l[j].xt) ∧ (wds l)[3 * j + 2]? = some (.int .i64 l[j].fl):=by
  induction l with
  | nil => intro j h; simp at h
  | cons q l ih =>
    intro j h;rw [wds_cons];cases j with
    | zero => exact ⟨rfl,rfl,rfl⟩
    | succ j =>
      have:=ih (j:=j) (by simpa using h);rw [show 3 * (j + 1) = 3 * j + 1 + 1 + 1 by omega];simpa using this
def Wds (w : World) (v : Value) (l : List Wr) : Prop:=∃ A c,v = .slice A l.length c ∧ l.length ≤ c ∧ c ≤ maxLen ∧ Lies w A (wds l)
theorem Wds.keep {w w' : World} {v : Value} {l : List Wr} (h : Wds w v l) (b : Below w.heap.size w w') : Wds w' v l:=by
  obtain ⟨A,c,h1,h2,h3,h4⟩:=h;exact ⟨A,c,h1,h2,h3,h4.keep b⟩
theorem wds_nil (w : World) : Wds w (.slice none 0 0) []:=⟨none,0,rfl,Nat.le_refl _,Nat.zero_le _,.inl rfl⟩
theorem wds_block {w : World} {g : Nat} {l : List Wr} {t : TypeId} (h : w.heap[g]? = some (.cells (wds l).toArray t (0,0))) (hl : l.length ≤ 65536) : Wds w (.slice (some ⟨g,0,none⟩) l.length l.length) l :=
  ⟨_,_,rfl,Nat.le_refl _,by unfold maxLen; omega,lies_block h⟩
theorem Wds.len {w : World} {A : Option Addr} {n c : Nat} {l : List Wr} (h : Wds w (.slice A n c) l) : l.length = n:=by
  obtain ⟨A',c',e,_⟩:=h;injection e with _ e _
  exact e.symm
theorem Wds.lies {w : World} {A : Option Addr} {n c : Nat} {l : List Wr} (h : Wds w (.slice A n c) l) : Lies w A (wds l):=by
  obtain ⟨A',c',e,_,_,hl⟩:=h;injection e with e _ _
  subst e;exact hl
theorem wds_cell {w : World} {A : Option Addr} {n c : Nat} {l : List Wr} (h : Wds w (.slice A n c) l) {k : Nat} (hk : k < l.length) : ∃ g o,A = some ⟨g,o,none⟩ ∧ w.cell? ⟨g,o + k * 3,none⟩ = some (.string (strB l[k].nm)) ∧ w.cell? ⟨g,o + k * 3 + 1,none⟩ = some (.int .i64 l[k].xt) ∧ w.cell? ⟨g,o + k * 3 + 2,none⟩ = some (.int .i64 l[k].fl):=by
  rcases h.lies with h | ⟨g,o,e,_,hc⟩
  · have:=congrArg List.length h
    rw [wds_len] at this;have h0 : l.length * 3 = 0:=this;omega
  · obtain ⟨h1,h2,h3⟩:=wds_at hk
    have e1 : o + k * 3 = o + 3 * k:=by omega
    have e2 : o + k * 3 + 1 = o + (3 * k + 1):=by omega
    have e3 : o + k * 3 + 2 = o + (3 * k + 2):=by omega
    exact ⟨g,o,e,by rw [e1]; exact hc _ _ h1,by rw [e2]; exact hc _ _ h2,by rw [e3]; exact hc _ _ h3⟩
abbrev WOwns (w : World) (base : Nat) (v : Value) (n : Nat) (l : List Wr) : Prop:=w.ownsRow base 120 3 v n (wds l)
theorem WOwns.wds {w : World} {base n : Nat} {v : Value} {l : List Wr} (h : WOwns w base v n l) : Wds w v l:=by
  have hl:=h.1;rw [wds_len] at hl;have hl : l.length = n:=by omega
  subst hl
  rcases h.2 with ⟨rfl,h0⟩ | ⟨g,cap,cur,rfl,_,hg,hnc,hcm,_,ht⟩
  · have : l = []:=List.eq_nil_of_length_eq_zero h0
    subst this;exact wds_nil w
  · refine ⟨some ⟨g,0,none⟩,cap,rfl,hnc,hcm,.inr ⟨g,0,rfl,(Array.getElem?_eq_some_iff.1 hg).1,fun j x hx => ?_⟩⟩
    rw [← ht,List.getElem?_take] at hx
    split at hx
    · rw [Nat.zero_add]
      simp [World.cell?,hg];simpa using hx
    · cases hx
theorem WOwns.alloc {w : World} {base n : Nat} {v : Value} {l : List Wr} (h : WOwns w base v n l) (o : Obj) : WOwns (w.alloc o) base v n l:=World.ownsRow.alloc h o
theorem WOwns.keep {w w' : World} {base n : Nat} {v : Value} {l : List Wr} (h : WOwns w base v n l) (b : Below w.heap.size w w') : WOwns w' base v n l:=by
  refine ⟨h.1,?_⟩
  rcases h.2 with h2 | ⟨g,cap,cur,e,hb,hg,h3,h4,h5,h6⟩
  · exact .inl h2
  · exact .inr ⟨g,cap,cur,e,hb,(b.block g (Array.getElem?_eq_some_iff.1 hg).1).trans hg,h3,h4,h5,h6⟩
theorem wown_from {w : World} {base e size n : Nat} {v : Value} {xs : List Value} (h : w.ownsRow base e size v n xs) : ∀ k,v.ownBlock = some k → base ≤ k:=fun k hk => (h.lt k hk).1
theorem run_wapp {w : World} (ty : TypeId) {base n : Nat} {v : Value} {xs : List Wr} (hown : WOwns w base v n xs) {A : Option Addr} {m c : Nat} {ys : List Wr} (hr : Wds w (.slice A m c) ys) (h63 : n + m ≤ 1000000) (hbase : base ≤ w.heap.size) :
    ∃ v' w',(Builtin.append_ #[30,30] ty #[v,.slice A m c]).run Tryz.prog w = .ok v' w' ∧ WOwns w' base v' (n + m) (xs ++ ys) ∧ w.grownBy w' v.ownBlock:=by
  obtain ⟨i0,hi,hz0,hz1,hz2⟩:=info_parts info_word;have h1:=hr.len;have h4:=hr.lies;cases A with
  | some ad =>
    have hsrc : ∀ j u,(wds ys)[j]? = some u → w.cell? (ad.add j) = some u:=by
      intro j u hu
      rcases h4 with h4 | ⟨g,o,e,_,hc⟩
      · rw [h4] at hu; simp at hu
      · injection e with e
        rw [e,add_at];exact hc j u hu
    obtain ⟨v',w',ha,hb,hc,_⟩:=run_append_own (P:=Tryz.prog) w base 30 ty 120 i0 (.agg #[.string ⟨#[]⟩,.int .i64 0,.int .i64 0]) 3 32 Tryz.underlying30 hi hz0 hz1 hz2 rfl (by decide) v n (wds xs) hown ad m c (wds ys) (by rw [wds_len,h1]) hsrc (wds_one ys) (by unfold maxLen; omega) (by omega) hbase;exact ⟨v',w',ha,by have e:=wds_app xs ys; unfold WOwns; rw [e]; exact hb,hc⟩
  | none =>
    have hnil : ys = []:=by
      rcases h4 with h | ⟨_,_,h,_⟩
      · have:=congrArg List.length h
        rw [wds_len] at this;have h0 : ys.length * 3 = 0:=this;exact List.eq_nil_of_length_eq_zero (by omega)
      · cases h
    subst hnil;have hm : m = 0:=by rw [← h1]; rfl
    subst hm;refine ⟨v,w,?_,by simpa using hown,World.grownBy.refl w _⟩
    rcases hown.2 with ⟨rfl,rfl⟩ | ⟨g,cap,cur,rfl,_,_,hnc,_⟩
    · simp [Builtin.append_,run_underlying Tryz.underlying30,sizeOf,typeInfo,hi,Builtin.lenOf,Builtin.firstCells]
    · simp [Builtin.append_,run_underlying Tryz.underlying30,sizeOf,typeInfo,hi,Builtin.lenOf,Builtin.firstCells,hnc,storeCells]
theorem wapp_below {w0 w w' : World} {base n : Nat} {v : Value} {xs : List Wr} (hown : WOwns w base v n xs) (hb : Below w0.heap.size w0 w) (hg : w.grownBy w' v.ownBlock) (hB : w0.heap.size ≤ base) : Below w0.heap.size w0 w' :=
  hb.grown hg hb.size (fun k hk => Nat.le_trans hB (wown_from hown k hk))
theorem wp_wapp {o : Oper} {a : Act} {K : Act → World → Prop} {Q : Exit → Act → World → Prop} {w : World} (s x : Operand)
    (ho : o.op = .call { callee:=.builtin .append,args:=#[s,x],argTypes:=#[30,30] })
    (base : Nat) (v : Value) (n : Nat) (xs : List Wr) (hs : a.eval s = v) (hown : WOwns w base v n xs)
    (A : Option Addr) (m c : Nat) (ys : List Wr) (hx : a.eval x = .slice A m c) (hr : Wds w (.slice A m c) ys) (h63 : n + m ≤ 1000000) (hbase : base ≤ w.heap.size)
    (w0 : World) (hb : Below w0.heap.size w0 w) (hB : w0.heap.size ≤ base)
    (h : ∀ v' w',WOwns w' base v' (n + m) (xs ++ ys) → Below w0.heap.size w0 w' → w.grownBy w' v.ownBlock → K (a.put o.dst v') w') : o.wp Tryz.prog a w K Q:=by
  obtain ⟨v',w',hr,h2,h3⟩:=run_wapp o.type hown hr h63 hbase;unfold Oper.wp execOp;simp only [ho,resolve,invoke,builtin,Sem.run_bind,Sem.run_pure,Result.andThen_ok,List.map_toArray,List.map_cons,List.map_nil,hs,hx,hr];exact h v' w' h2 (wapp_below hown hb h3 hB) h3
end Go.Proofs.YtlgnijhemfkflaaGreatDoor

namespace Go.Proofs.YtlgnijhemfkflaaGreatDoor
open Go.RowKit


def solid (c : UInt8) : Bool:=decide (32 < c.toNat)
def wordW : List UInt8 → List UInt8
  | [] => []
  | c :: r => if solid c = true then c :: r.takeWhile solid else wordW r
def wordT : List UInt8 → List UInt8
  | [] => []
  | c :: r => if solid c = true then (r.dropWhile solid).drop 1 else wordT r
def notC (c x : UInt8) : Bool:=decide (x ≠ c)
def uptoW (r : List UInt8) (c : UInt8) : List UInt8:=r.takeWhile (notC c)
end Go.Proofs.YtlgnijhemfkflaaGreatDoor

namespace Go.Proofs.YtlgnijhemfkflaaGreatDoor
open Go.RowKit


theorem info_str : (Tryz.prog.info? 9).map (fun i => (i.zero,i.size,i.bytes)) = some (some (.string ⟨#[]⟩),1,16):=by kernel_rfl
def sts (l : List (List UInt8)) : List Value:=l.map fun b => .string (strB b)
theorem sts_len (l : List (List UInt8)) : (sts l).length = l.length:=by simp [sts]
theorem sts_one (l : List (List UInt8)) : ∀ v ∈ sts l,v.oneCell' = true:=by
  intro v hv;unfold sts at hv;rw [List.mem_map] at hv;obtain ⟨b,_,rfl⟩:=hv;rfl
theorem sts_app (a b : List (List UInt8)) : sts (a ++ b) = sts a ++ sts b:=by simp [sts]
theorem sts_at {l : List (List UInt8)} {j : Nat} (h : j < l.length) : (sts l)[j]? = some (.string (strB l[j])):=by simp [sts,h]
def Sts (w : World) (v : Value) (l : List (List UInt8)) : Prop:=∃ A c,v = .slice A l.length c ∧ l.length ≤ c ∧ c ≤ maxLen ∧ Lies w A (sts l)
theorem Sts.keep {w w' : World} {v : Value} {l : List (List UInt8)} (h : Sts w v l) (b : Below w.heap.size w w') : Sts w' v l:=by
  obtain ⟨A,c,h1,h2,h3,h4⟩:=h;exact ⟨A,c,h1,h2,h3,h4.keep b⟩
theorem sts_nil (w : World) : Sts w (.slice none 0 0) []:=⟨none,0,rfl,Nat.le_refl _,Nat.zero_le _,.inl rfl⟩
theorem sts_block {w : World} {g : Nat} {l : List (List UInt8)} {t : TypeId} (h : w.heap[g]? = some (.cells (sts l).toArray t (0,0))) (hl : l.length ≤ 65536) : Sts w (.slice (some ⟨g,0,none⟩) l.length l.length) l :=
  ⟨_,_,rfl,Nat.le_refl _,by unfold maxLen; omega,lies_block h⟩
theorem Sts.len {w : World} {A : Option Addr} {n c : Nat} {l : List (List UInt8)} (h : Sts w (.slice A n c) l) : l.length = n:=by
  obtain ⟨A',c',e,_⟩:=h;injection e with _ e _
  exact e.symm
theorem Sts.lies {w : World} {A : Option Addr} {n c : Nat} {l : List (List UInt8)} (h : Sts w (.slice A n c) l) : Lies w A (sts l):=by
  obtain ⟨A',c',e,_,_,hl⟩:=h;injection e with e _ _
  subst e;exact hl
theorem sts_cell {w : World} {A : Option Addr} {n c : Nat} {l : List (List UInt8)} (h : Sts w (.slice A n c) l) {k : Nat} (hk : k < l.length) : ∃ g o,A = some ⟨g,o,none⟩ ∧ w.cell? ⟨g,o + k,none⟩ = some (.string (strB l[k])):=by
  rcases h.lies with h | ⟨g,o,e,_,hc⟩
  · have:=congrArg List.length h
    rw [sts_len] at this;have h0 : l.length = 0:=this;omega
  · exact ⟨g,o,e,hc k _ (sts_at hk)⟩
abbrev SOwns (w : World) (base : Nat) (v : Value) (n : Nat) (l : List (List UInt8)) : Prop:=w.ownsRow base 9 1 v n (sts l)
theorem SOwns.sts {w : World} {base n : Nat} {v : Value} {l : List (List UInt8)} (h : SOwns w base v n l) : Sts w v l:=by
  have hl:=h.1;rw [sts_len,Nat.mul_one] at hl;subst hl
  rcases h.2 with ⟨rfl,h0⟩ | ⟨g,cap,cur,rfl,_,hg,hnc,hcm,_,ht⟩
  · have : l = []:=List.eq_nil_of_length_eq_zero h0
    subst this;exact sts_nil w
  · refine ⟨some ⟨g,0,none⟩,cap,rfl,hnc,hcm,.inr ⟨g,0,rfl,(Array.getElem?_eq_some_iff.1 hg).1,fun j x hx => ?_⟩⟩
    rw [← ht,List.getElem?_take] at hx
    split at hx
    · rw [Nat.zero_add]
      simp [World.cell?,hg];simpa using hx
    · cases hx
theorem SOwns.alloc {w : World} {base n : Nat} {v : Value} {l : List (List UInt8)} (h : SOwns w base v n l) (o : Obj) : SOwns (w.alloc o) base v n l:=World.ownsRow.alloc h o
theorem SOwns.keep {w w' : World} {base n : Nat} {v : Value} {l : List (List UInt8)} (h : SOwns w base v n l) (b : Below w.heap.size w w') : SOwns w' base v n l:=by
  refine ⟨h.1,?_⟩
  rcases h.2 with h2 | ⟨g,cap,cur,e,hb,hg,h3,h4,h5,h6⟩
  · exact .inl h2
  · exact .inr ⟨g,cap,cur,e,hb,(b.block g (Array.getElem?_eq_some_iff.1 hg).1).trans hg,h3,h4,h5,h6⟩
theorem sown_from {w : World} {base e size n : Nat} {v : Value} {xs : List Value} (h : w.ownsRow base e size v n xs) : ∀ k,v.ownBlock = some k → base ≤ k:=fun k hk => (h.lt k hk).1
theorem run_sapp {w : World} (ty : TypeId) {base n : Nat} {v : Value} {xs : List (List UInt8)} (hown : SOwns w base v n xs) {A : Option Addr} {m c : Nat} {ys : List (List UInt8)} (hr : Sts w (.slice A m c) ys) (h63 : n + m ≤ 1000000) (hbase : base ≤ w.heap.size) :
    ∃ v' w',(Builtin.append_ #[50,50] ty #[v,.slice A m c]).run Tryz.prog w = .ok v' w' ∧ SOwns w' base v' (n + m) (xs ++ ys) ∧ w.grownBy w' v.ownBlock:=by
  obtain ⟨i0,hi,hz0,hz1,hz2⟩:=info_parts info_str;have h1:=hr.len;have h4:=hr.lies;cases A with
  | some ad =>
    have hsrc : ∀ j u,(sts ys)[j]? = some u → w.cell? (ad.add j) = some u:=by
      intro j u hu
      rcases h4 with h4 | ⟨g,o,e,_,hc⟩
      · rw [h4] at hu; simp at hu
      · injection e with e
        rw [e,add_at];exact hc j u hu
    obtain ⟨v',w',ha,hb,hc,_⟩:=run_append_own (P:=Tryz.prog) w base 50 ty 9 i0 (.string ⟨#[]⟩) 1 16 Tryz.underlying50 hi hz0 hz1 hz2 rfl (by decide) v n (sts xs) hown ad m c (sts ys) (by rw [sts_len,h1,Nat.mul_one]) hsrc (sts_one ys) (by unfold maxLen; omega) (by omega) hbase;exact ⟨v',w',ha,by have e:=sts_app xs ys; unfold SOwns; rw [e]; exact hb,hc⟩
  | none =>
    have hnil : ys = []:=by
      rcases h4 with h | ⟨_,_,h,_⟩
      · have:=congrArg List.length h
        rw [sts_len] at this;exact List.eq_nil_of_length_eq_zero this
      · cases h
    subst hnil;have hm : m = 0:=by rw [← h1]; rfl
    subst hm;refine ⟨v,w,?_,by simpa using hown,World.grownBy.refl w _⟩
    rcases hown.2 with ⟨rfl,rfl⟩ | ⟨g,cap,cur,rfl,_,_,hnc,_⟩
    · simp [Builtin.append_,run_underlying Tryz.underlying50,sizeOf,typeInfo,hi,Builtin.lenOf,Builtin.firstCells]
    · simp [Builtin.append_,run_underlying Tryz.underlying50,sizeOf,typeInfo,hi,Builtin.lenOf,Builtin.firstCells,hnc,storeCells]
theorem sapp_below {w0 w w' : World} {base n : Nat} {v : Value} {xs : List (List UInt8)} (hown : SOwns w base v n xs) (hb : Below w0.heap.size w0 w) (hg : w.grownBy w' v.ownBlock) (hB : w0.heap.size ≤ base) : Below w0.heap.size w0 w' :=
  hb.grown hg hb.size (fun k hk => Nat.le_trans hB (sown_from hown k hk))
theorem wp_sapp {o : Oper} {a : Act} {K : Act → World → Prop} {Q : Exit → Act → World → Prop} {w : World} (s x : Operand)
    (ho : o.op = .call { callee:=.builtin .append,args:=#[s,x],argTypes:=#[50,50] })
    (base : Nat) (v : Value) (n : Nat) (xs : List (List UInt8)) (hs : a.eval s = v) (hown : SOwns w base v n xs)
    (A : Option Addr) (m c : Nat) (ys : List (List UInt8)) (hx : a.eval x = .slice A m c) (hr : Sts w (.slice A m c) ys) (h63 : n + m ≤ 1000000) (hbase : base ≤ w.heap.size)
    (w0 : World) (hb : Below w0.heap.size w0 w) (hB : w0.heap.size ≤ base)
    (h : ∀ v' w',SOwns w' base v' (n + m) (xs ++ ys) → Below w0.heap.size w0 w' → w.grownBy w' v.ownBlock → K (a.put o.dst v') w') : o.wp Tryz.prog a w K Q:=by
  obtain ⟨v',w',hr,h2,h3⟩:=run_sapp o.type hown hr h63 hbase;unfold Oper.wp execOp;simp only [ho,resolve,invoke,builtin,Sem.run_bind,Sem.run_pure,Result.andThen_ok,List.map_toArray,List.map_cons,List.map_nil,hs,hx,hr];exact h v' w' h2 (sapp_below hown hb h3 hB) h3
theorem wpList_sapp {ops : Array Oper} {rest : List Oper} {o : Oper} {a : Act} {Q : Exit → Act → World → Prop} {w : World} (hgd : o.guard = none) (s x : Operand)
    (ho : o.op = .call { callee:=.builtin .append,args:=#[s,x],argTypes:=#[50,50] })
    (base : Nat) (v : Value) (n : Nat) (xs : List (List UInt8)) (hs : a.eval s = v) (hown : SOwns w base v n xs)
    (A : Option Addr) (m c : Nat) (ys : List (List UInt8)) (hx : a.eval x = .slice A m c) (hr : Sts w (.slice A m c) ys) (h63 : n + m ≤ 1000000) (hbase : base ≤ w.heap.size)
    (w0 : World) (hb : Below w0.heap.size w0 w) (hB : w0.heap.size ≤ base)
    (h : ∀ v' w',SOwns w' base v' (n + m) (xs ++ ys) → Below w0.heap.size w0 w' → w.grownBy w' v.ownBlock → wpList Tryz.prog ops Q rest (a.put o.dst v') w') : wpList Tryz.prog ops Q (o :: rest) a w :=
  wpList_plain hgd fun _ hK => wp_sapp s x ho base v n xs hs hown A m c ys hx hr h63 hbase w0 hb hB fun v' w' h2 h3 h4 => hK _ _ (h v' w' h2 h3 h4)
end Go.Proofs.YtlgnijhemfkflaaGreatDoor
