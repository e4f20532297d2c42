/- Part 55. -/
import Derived.Test.YtlgnijhemfkflaaGreatDoorPartAZ
set_option linter.unusedVariables false
set_option linter.unusedSimpArgs false
set_option maxRecDepth 100000
set_option maxHeartbeats 4000000

namespace Go.Proofs.YtlgnijhemfkflaaGreatDoor
open Go.ChangeShapes Go.WideShapes Go.ChangeAt Go.RowKit Go.Joins Go.Deep


section
variable {H : Type} {enc : TypeId × Value → H} {w : World}
theorem open_word {fuel : Nat} {cs : List Value} {x : DataW H × List MemPlace} (h : DataW.trod enc Tryz.prog w 0 (fun _ => true) true fuel 120 cs = some x) : ∃ s_nm j_xt j_fl,cs = [.string (strB s_nm),.int .i64 j_xt,.int .i64 j_fl] ∧ s_nm.length ≤ 9223372036854775807 ∧ (Lit.int .i64 j_xt).wf = true ∧ (Lit.int .i64 j_fl).wf = true:=by
  obtain ⟨ys,n,_,_,hlen,hyl,hf⟩:=DataW.trod_struct Tryz.underlying120 h;have h2 : cs.length = 3:=hlen.trans (by kernel_rfl);have hy2 : ys.length = 3:=hyl
  match cs,h2 with
  | [c0,c1,c2],_ =>
    have f0 : DataW.trod enc Tryz.prog w 0 (fun _ => true) true n 9 (([c0,c1,c2].drop 0).take (Tryz.prog.cellsOf 9)) = ys[0]?:=hf 0 _ rfl;rw [show Tryz.prog.cellsOf 9 = 1 by kernel_rfl] at f0;rw [show ys[0]? = some (ys[0]'(by omega)) from List.getElem?_eq_getElem _] at f0;have f1 : DataW.trod enc Tryz.prog w 0 (fun _ => true) true n 3 (([c0,c1,c2].drop 1).take (Tryz.prog.cellsOf 3)) = ys[1]?:=hf 1 _ rfl;rw [show Tryz.prog.cellsOf 3 = 1 by kernel_rfl] at f1;rw [show ys[1]? = some (ys[1]'(by omega)) from List.getElem?_eq_getElem _] at f1;have f2 : DataW.trod enc Tryz.prog w 0 (fun _ => true) true n 3 (([c0,c1,c2].drop 2).take (Tryz.prog.cellsOf 3)) = ys[2]?:=hf 2 _ rfl;rw [show Tryz.prog.cellsOf 3 = 1 by kernel_rfl] at f2;rw [show ys[2]? = some (ys[2]'(by omega)) from List.getElem?_eq_getElem _] at f2;obtain ⟨p0,e0,_,w0⟩:=DataW.trod_string Tryz.underlying9 f0;have e0' : c0 = .string p0:=by simpa using e0
    subst e0';obtain ⟨q0,rfl⟩ : ∃ l,p0 = strB l:=⟨_,(strB_of p0).symm⟩;have hw0 : q0.length ≤ 9223372036854775807:=Nat.le_trans w0 (by decide);obtain ⟨p1,e1,_,w1⟩:=DataW.trod_int Tryz.underlying3 f1;have e1' : c1 = .int .i64 p1:=by simpa using e1
    subst e1';obtain ⟨p2,e2,_,w2⟩:=DataW.trod_int Tryz.underlying3 f2;have e2' : c2 = .int .i64 p2:=by simpa using e2
    subst e2';exact ⟨q0,p1,p2,rfl,hw0,w1,w2⟩
theorem open_wds {fuel : Nat} {v : Value} {x : DataW H × List MemPlace} (h : DataW.trod enc Tryz.prog w 0 (fun _ => true) true fuel 30 [v] = some x) : ∃ l,Wds w v l:=by
  have hC : Tryz.prog.cellsOf 120 = 3:=by kernel_rfl
  rcases open_slice Tryz.underlying30 h with ⟨hcs,_⟩ | ⟨a,len,cap,mm,n,D,Pl,hcs,_,hl,hm,hmm,_,hi⟩
  · simp at hcs
    subst hcs;exact ⟨[],wds_nil w⟩
  · simp at hcs hmm
    subst hcs;rw [hC] at hi
    obtain ⟨L,hL,hR⟩:=list_of len (fun i (q : Wr) => w.cell? (a.add (i * 3)) = some (.string (strB q.nm)) ∧ w.cell? (a.add (i * 3 + 1)) = some (.int .i64 q.xt) ∧ w.cell? (a.add (i * 3 + 2)) = some (.int .i64 q.fl)) (fun i hilt => by
      obtain ⟨cs',hc,ht⟩:=hi i (by omega);obtain ⟨nm,xt,fl,rfl,_,_,_⟩:=open_word ht;obtain ⟨_,_,hat⟩:=World.cells?_some hc;refine ⟨⟨nm,xt,fl⟩,?_,?_,?_⟩
      · have:=hat 0 (by omega)
        rw [Go.Deep.add_add] at this;simpa using this
      · have:=hat 1 (by omega)
        rw [Go.Deep.add_add] at this;simpa using this
      · have:=hat 2 (by omega)
        rw [Go.Deep.add_add] at this
        simpa using this)
    refine ⟨L,some a,cap,by rw [hL],by rw [hL]; exact hl,hm,?_⟩
    by_cases h0 : len = 0
    · subst h0
      have : L = []:=List.eq_nil_of_length_eq_zero hL;subst this;exact .inl rfl
    · have hL0 : L[0]? = some (L[0]'(by omega)):=List.getElem?_eq_getElem _
      obtain ⟨b,off,rfl,hb⟩:=plain_of (hR 0 _ hL0).1;refine .inr ⟨b,off,rfl,hb,fun j v hv => ?_⟩;have hj : j < len * 3:=by have:=(List.getElem?_eq_some_iff.1 hv).1; rw [wds_len,hL] at this; exact this
      have hk : j / 3 < L.length:=by omega
      have hLk : L[j / 3]? = some L[j / 3]:=List.getElem?_eq_getElem hk;obtain ⟨r1,r2,r3⟩:=hR (j / 3) _ hLk;rw [add_at] at r1 r2 r3;obtain ⟨t1,t2,t3⟩:=wds_at hk
      rcases (by omega : j % 3 = 0 ∨ j % 3 = 1 ∨ j % 3 = 2) with he | he | he
      · rw [show 3 * (j / 3) = j by omega,hv] at t1
        injection t1 with t1
        rw [t1,show off + j = off + j / 3 * 3 by omega];exact r1
      · rw [show 3 * (j / 3) + 1 = j by omega,hv] at t2
        injection t2 with t2
        rw [t2,show off + j = off + (j / 3 * 3 + 1) by omega];exact r2
      · rw [show 3 * (j / 3) + 2 = j by omega,hv] at t3
        injection t3 with t3
        rw [t3,show off + j = off + (j / 3 * 3 + 2) by omega];exact r3
theorem open_row {fuel : Nat} {v : Value} {x : DataW H × List MemPlace} (h : DataW.trod enc Tryz.prog w 0 (fun _ => true) true fuel 28 [v] = some x) : ∃ A n c l,v = .slice A n c ∧ Row w A n c l:=by
  rcases open_ints Tryz.underlying28 Tryz.underlying3 (by kernel_rfl) h with ⟨hcs,_⟩ | ⟨a,len,cap,zs,hcs,_,hl,hm,hz,_,hcell,hwz⟩
  · simp at hcs
    exact ⟨_,_,_,_,hcs,row_nil w⟩
  · simp at hcs hz
    refine ⟨_,_,_,zs.take len,hcs,by simp; omega,hl,hm,?_⟩
    by_cases h0 : len = 0
    · subst h0; exact .inl (by simp [ints])
    · obtain ⟨b,off,rfl,hb⟩:=plain_of (hcell 0 (by omega))
      refine .inr ⟨b,off,rfl,hb,fun j v hv => ?_⟩;have hj : j < len:=by have:=(List.getElem?_eq_some_iff.1 hv).1; rw [ints_len] at this; simp at this; omega
      have hjz : j < zs.length:=by omega
      have hc:=hcell j hjz;rw [add_at] at hc;rw [hc];simp [ints,hj,hjz] at hv;rw [← hv];simp [List.getD,List.getElem?_eq_getElem hjz]
theorem open_pic {fuel : Nat} {cs : List Value} {x : DataW H × List MemPlace} (h : DataW.trod enc Tryz.prog w 0 (fun _ => true) true fuel 32 cs = some x) : ∃ B_B l_B e_B b_B o_On,cs = [.slice B_B l_B e_B,.bool o_On] ∧ Byt w (.slice B_B l_B e_B) b_B:=by
  obtain ⟨ys,n,_,_,hlen,hyl,hf⟩:=DataW.trod_struct Tryz.underlying32 h;have h2 : cs.length = 2:=hlen.trans (by kernel_rfl);have hy2 : ys.length = 2:=hyl
  match cs,h2 with
  | [c0,c1],_ =>
    have f0 : DataW.trod enc Tryz.prog w 0 (fun _ => true) true n 24 (([c0,c1].drop 0).take (Tryz.prog.cellsOf 24)) = ys[0]?:=hf 0 _ rfl;rw [show Tryz.prog.cellsOf 24 = 1 by kernel_rfl] at f0;rw [show ys[0]? = some (ys[0]'(by omega)) from List.getElem?_eq_getElem _] at f0;have f1 : DataW.trod enc Tryz.prog w 0 (fun _ => true) true n 4 (([c0,c1].drop 1).take (Tryz.prog.cellsOf 4)) = ys[1]?:=hf 1 _ rfl;rw [show Tryz.prog.cellsOf 4 = 1 by kernel_rfl] at f1;rw [show ys[1]? = some (ys[1]'(by omega)) from List.getElem?_eq_getElem _] at f1;obtain ⟨b0,hb0⟩:=open_byt f0;obtain ⟨B0,l0,z0,e0⟩:=hb0.slice;have e0' : c0 = .slice B0 l0 z0:=e0;subst e0';obtain ⟨p1,e1,_⟩:=DataW.trod_bool Tryz.underlying4 f1;have e1' : c1 = .bool p1:=by simpa using e1
    subst e1';exact ⟨B0,l0,z0,b0,p1,rfl,hb0⟩
theorem open_rws {α : Type} {encd : α → List Value} {s : Nat} (hs : ∀ x,(encd x).length = s) (h0 : 0 < s) {S T : TypeId} (hu : Tryz.prog.underlying S = some (.slice T)) (hC : Tryz.prog.cellsOf T = s)
    (hel : ∀ {fuel : Nat} {cs : List Value} {x : DataW H × List MemPlace},DataW.trod enc Tryz.prog w 0 (fun _ => true) true fuel T cs = some x → ∃ q,cs = encd q)
    {fuel : Nat} {v : Value} {x : DataW H × List MemPlace} (h : DataW.trod enc Tryz.prog w 0 (fun _ => true) true fuel S [v] = some x) : ∃ A n c l,v = .slice A n c ∧ Rws encd w (.slice A n c) l:=by
  rcases open_slice hu h with ⟨hcs,_⟩ | ⟨a,len,cap,mm,n,D,Pl,hcs,_,hl,hm,hmm,_,hi⟩
  · simp at hcs
    subst hcs;exact ⟨_,_,_,[],rfl,rws_nil _ w⟩
  · simp at hcs hmm
    subst hcs;rw [hC] at hi
    obtain ⟨L,hL,hR⟩:=list_of len (fun i (q : α) => ∀ j u,j < s → (encd q)[j]? = some u → w.cell? (a.add (i * s + j)) = some u) (fun i hilt => by
      obtain ⟨cs',hc,ht⟩:=hi i (by omega);obtain ⟨q,rfl⟩:=hel ht;obtain ⟨_,_,hat⟩:=World.cells?_some hc;refine ⟨q,fun j u hj hu2 => ?_⟩;have:=hat j hj;rw [Go.Deep.add_add] at this;rw [this]
      exact hu2)
    refine ⟨some a,len,cap,L,rfl,some a,cap,by rw [hL],by rw [hL]; exact hl,hm,?_⟩
    by_cases hz : len = 0
    · subst hz
      have : L = []:=List.eq_nil_of_length_eq_zero hL;subst this;exact .inl rfl
    · have hL0 : L[0]? = some (L[0]'(by omega)):=List.getElem?_eq_getElem _
      have hu0 : (encd (L[0]'(by omega)))[0]? = some ((encd (L[0]'(by omega)))[0]'(by rw [hs]; exact h0)):=List.getElem?_eq_getElem _;have hfirst:=hR 0 _ hL0 0 _ h0 hu0;rw [Nat.zero_mul,Nat.zero_add] at hfirst;obtain ⟨b,off,rfl,hb⟩:=plain_of hfirst;refine .inr ⟨b,off,rfl,hb,fun j v hv => ?_⟩;have hdm : j / s * s + j % s = j:=by rw [Nat.mul_comm]; exact Nat.div_add_mod j s
      have hms : j % s < s:=Nat.mod_lt _ h0;have hj : j < len * s:=by
        have:=(List.getElem?_eq_some_iff.1 hv).1;rw [List.length_flatMap] at this;have e : (L.map fun x => (encd x).length) = L.map fun _ => s:=List.map_congr_left fun x _ => hs x
        rw [e,List.map_const',List.sum_replicate_nat,hL] at this;exact this
      have hk : j / s < L.length:=by rw [hL]; exact Nat.div_lt_of_lt_mul (by rw [Nat.mul_comm]; exact hj)
      have hf:=flat_at hs hk hms;rw [hdm,hv] at hf;have:=hR (j / s) _ (List.getElem?_eq_getElem hk) (j % s) v hms hf.symm;rw [add_at,hdm] at this;exact this
theorem open_fm {fuel : Nat} {cs : List Value} {x : DataW H × List MemPlace} (h : DataW.trod enc Tryz.prog w 0 (fun _ => true) true fuel 91 cs = some x) : ∃ j_d j_r j_ip,cs = [.int .i64 j_d,.int .i64 j_r,.int .i64 j_ip] ∧ (Lit.int .i64 j_d).wf = true ∧ (Lit.int .i64 j_r).wf = true ∧ (Lit.int .i64 j_ip).wf = true:=by
  obtain ⟨ys,n,_,_,hlen,hyl,hf⟩:=DataW.trod_struct Tryz.underlying91 h;have h2 : cs.length = 3:=hlen.trans (by kernel_rfl);have hy2 : ys.length = 3:=hyl
  match cs,h2 with
  | [c0,c1,c2],_ =>
    have f0 : DataW.trod enc Tryz.prog w 0 (fun _ => true) true n 3 (([c0,c1,c2].drop 0).take (Tryz.prog.cellsOf 3)) = ys[0]?:=hf 0 _ rfl;rw [show Tryz.prog.cellsOf 3 = 1 by kernel_rfl] at f0;rw [show ys[0]? = some (ys[0]'(by omega)) from List.getElem?_eq_getElem _] at f0;have f1 : DataW.trod enc Tryz.prog w 0 (fun _ => true) true n 3 (([c0,c1,c2].drop 1).take (Tryz.prog.cellsOf 3)) = ys[1]?:=hf 1 _ rfl;rw [show Tryz.prog.cellsOf 3 = 1 by kernel_rfl] at f1;rw [show ys[1]? = some (ys[1]'(by omega)) from List.getElem?_eq_getElem _] at f1;have f2 : DataW.trod enc Tryz.prog w 0 (fun _ => true) true n 3 (([c0,c1,c2].drop 2).take (Tryz.prog.cellsOf 3)) = ys[2]?:=hf 2 _ rfl;rw [show Tryz.prog.cellsOf 3 = 1 by kernel_rfl] at f2;rw [show ys[2]? = some (ys[2]'(by omega)) from List.getElem?_eq_getElem _] at f2;obtain ⟨p0,e0,_,w0⟩:=DataW.trod_int Tryz.underlying3 f0;have e0' : c0 = .int .i64 p0:=by simpa using e0
    subst e0';obtain ⟨p1,e1,_,w1⟩:=DataW.trod_int Tryz.underlying3 f1;have e1' : c1 = .int .i64 p1:=by simpa using e1
    subst e1';obtain ⟨p2,e2,_,w2⟩:=DataW.trod_int Tryz.underlying3 f2;have e2' : c2 = .int .i64 p2:=by simpa using e2
    subst e2';exact ⟨p0,p1,p2,rfl,w0,w1,w2⟩
theorem open_fms {fuel : Nat} {v : Value} {x : DataW H × List MemPlace} (h : DataW.trod enc Tryz.prog w 0 (fun _ => true) true fuel 29 [v] = some x) : ∃ A n c l,v = .slice A n c ∧ Rws fmE w (.slice A n c) l :=
  open_rws (s:=3) (fun _ => rfl) (by decide) Tryz.underlying29 (by kernel_rfl) (fun h => by
    obtain ⟨j_d,j_r,j_ip,e,_⟩:=open_fm h
    exact ⟨⟨j_d,j_r,j_ip⟩,e⟩) h
theorem open_rq {fuel : Nat} {cs : List Value} {x : DataW H × List MemPlace} (h : DataW.trod enc Tryz.prog w 0 (fun _ => true) true fuel 61 cs = some x) : ∃ j_k j_a j_h j_r j_d j_i,cs = [.int .i64 j_k,.int .i64 j_a,.int .i64 j_h,.int .i64 j_r,.int .i64 j_d,.int .i64 j_i] ∧ (Lit.int .i64 j_k).wf = true ∧ (Lit.int .i64 j_a).wf = true ∧ (Lit.int .i64 j_h).wf = true ∧ (Lit.int .i64 j_r).wf = true ∧ (Lit.int .i64 j_d).wf = true ∧ (Lit.int .i64 j_i).wf = true:=by
  obtain ⟨ys,n,_,_,hlen,hyl,hf⟩:=DataW.trod_struct Tryz.underlying61 h;have h2 : cs.length = 6:=hlen.trans (by kernel_rfl);have hy2 : ys.length = 6:=hyl
  match cs,h2 with
  | [c0,c1,c2,c3,c4,c5],_ =>
    have f0 : DataW.trod enc Tryz.prog w 0 (fun _ => true) true n 3 (([c0,c1,c2,c3,c4,c5].drop 0).take (Tryz.prog.cellsOf 3)) = ys[0]?:=hf 0 _ rfl;rw [show Tryz.prog.cellsOf 3 = 1 by kernel_rfl] at f0;rw [show ys[0]? = some (ys[0]'(by omega)) from List.getElem?_eq_getElem _] at f0;have f1 : DataW.trod enc Tryz.prog w 0 (fun _ => true) true n 3 (([c0,c1,c2,c3,c4,c5].drop 1).take (Tryz.prog.cellsOf 3)) = ys[1]?:=hf 1 _ rfl;rw [show Tryz.prog.cellsOf 3 = 1 by kernel_rfl] at f1;rw [show ys[1]? = some (ys[1]'(by omega)) from List.getElem?_eq_getElem _] at f1;have f2 : DataW.trod enc Tryz.prog w 0 (fun _ => true) true n 3 (([c0,c1,c2,c3,c4,c5].drop 2).take (Tryz.prog.cellsOf 3)) = ys[2]?:=hf 2 _ rfl;rw [show Tryz.prog.cellsOf 3 = 1 by kernel_rfl] at f2;rw [show ys[2]? = some (ys[2]'(by omega)) from List.getElem?_eq_getElem _] at f2;have f3 : DataW.trod enc Tryz.prog w 0 (fun _ => true) true n 3 (([c0,c1,c2,c3,c4,c5].drop 3).take (Tryz.prog.cellsOf 3)) = ys[3]?:=hf 3 _ rfl;rw [show Tryz.prog.cellsOf 3 = 1 by kernel_rfl] at f3;rw [show ys[3]? = some (ys[3]'(by omega)) from List.getElem?_eq_getElem _] at f3;have f4 : DataW.trod enc Tryz.prog w 0 (fun _ => true) true n 3 (([c0,c1,c2,c3,c4,c5].drop 4).take (Tryz.prog.cellsOf 3)) = ys[4]?:=hf 4 _ rfl;rw [show Tryz.prog.cellsOf 3 = 1 by kernel_rfl] at f4;rw [show ys[4]? = some (ys[4]'(by omega)) from List.getElem?_eq_getElem _] at f4;have f5 : DataW.trod enc Tryz.prog w 0 (fun _ => true) true n 3 (([c0,c1,c2,c3,c4,c5].drop 5).take (Tryz.prog.cellsOf 3)) = ys[5]?:=hf 5 _ rfl
    rw [show Tryz.prog.cellsOf 3 = 1 by kernel_rfl] at f5;rw [show ys[5]? = some (ys[5]'(by omega)) from List.getElem?_eq_getElem _] at f5;obtain ⟨p0,e0,_,w0⟩:=DataW.trod_int Tryz.underlying3 f0;have e0' : c0 = .int .i64 p0:=by simpa using e0
    subst e0';obtain ⟨p1,e1,_,w1⟩:=DataW.trod_int Tryz.underlying3 f1;have e1' : c1 = .int .i64 p1:=by simpa using e1
    subst e1';obtain ⟨p2,e2,_,w2⟩:=DataW.trod_int Tryz.underlying3 f2;have e2' : c2 = .int .i64 p2:=by simpa using e2
    subst e2';obtain ⟨p3,e3,_,w3⟩:=DataW.trod_int Tryz.underlying3 f3;have e3' : c3 = .int .i64 p3:=by simpa using e3
    subst e3';obtain ⟨p4,e4,_,w4⟩:=DataW.trod_int Tryz.underlying3 f4;have e4' : c4 = .int .i64 p4:=by simpa using e4
    subst e4';obtain ⟨p5,e5,_,w5⟩:=DataW.trod_int Tryz.underlying3 f5;have e5' : c5 = .int .i64 p5:=by simpa using e5
    subst e5';exact ⟨p0,p1,p2,p3,p4,p5,rfl,w0,w1,w2,w3,w4,w5⟩
theorem open_rqs {fuel : Nat} {v : Value} {x : DataW H × List MemPlace} (h : DataW.trod enc Tryz.prog w 0 (fun _ => true) true fuel 33 [v] = some x) : ∃ A n c l,v = .slice A n c ∧ Rws rqE w (.slice A n c) l :=
  open_rws (s:=6) (fun _ => rfl) (by decide) Tryz.underlying33 (by kernel_rfl) (fun h => by
    obtain ⟨j_k,j_a,j_h,j_r,j_d,j_i,e,_⟩:=open_rq h
    exact ⟨⟨j_k,j_a,j_h,j_r,j_d,j_i⟩,e⟩) h
theorem open_hn {fuel : Nat} {cs : List Value} {x : DataW H × List MemPlace} (h : DataW.trod enc Tryz.prog w 0 (fun _ => true) true fuel 93 cs = some x) : ∃ j_x j_f j_s o_o,cs = [.int .i64 j_x,.int .i64 j_f,.int .i64 j_s,.bool o_o] ∧ (Lit.int .i64 j_x).wf = true ∧ (Lit.int .i64 j_f).wf = true ∧ (Lit.int .i64 j_s).wf = true:=by
  obtain ⟨ys,n,_,_,hlen,hyl,hf⟩:=DataW.trod_struct Tryz.underlying93 h;have h2 : cs.length = 4:=hlen.trans (by kernel_rfl);have hy2 : ys.length = 4:=hyl
  match cs,h2 with
  | [c0,c1,c2,c3],_ =>
    have f0 : DataW.trod enc Tryz.prog w 0 (fun _ => true) true n 3 (([c0,c1,c2,c3].drop 0).take (Tryz.prog.cellsOf 3)) = ys[0]?:=hf 0 _ rfl;rw [show Tryz.prog.cellsOf 3 = 1 by kernel_rfl] at f0;rw [show ys[0]? = some (ys[0]'(by omega)) from List.getElem?_eq_getElem _] at f0;have f1 : DataW.trod enc Tryz.prog w 0 (fun _ => true) true n 3 (([c0,c1,c2,c3].drop 1).take (Tryz.prog.cellsOf 3)) = ys[1]?:=hf 1 _ rfl;rw [show Tryz.prog.cellsOf 3 = 1 by kernel_rfl] at f1;rw [show ys[1]? = some (ys[1]'(by omega)) from List.getElem?_eq_getElem _] at f1;have f2 : DataW.trod enc Tryz.prog w 0 (fun _ => true) true n 3 (([c0,c1,c2,c3].drop 2).take (Tryz.prog.cellsOf 3)) = ys[2]?:=hf 2 _ rfl;rw [show Tryz.prog.cellsOf 3 = 1 by kernel_rfl] at f2;rw [show ys[2]? = some (ys[2]'(by omega)) from List.getElem?_eq_getElem _] at f2;have f3 : DataW.trod enc Tryz.prog w 0 (fun _ => true) true n 4 (([c0,c1,c2,c3].drop 3).take (Tryz.prog.cellsOf 4)) = ys[3]?:=hf 3 _ rfl;rw [show Tryz.prog.cellsOf 4 = 1 by kernel_rfl] at f3;rw [show ys[3]? = some (ys[3]'(by omega)) from List.getElem?_eq_getElem _] at f3;obtain ⟨p0,e0,_,w0⟩:=DataW.trod_int Tryz.underlying3 f0;have e0' : c0 = .int .i64 p0:=by simpa using e0
    subst e0';obtain ⟨p1,e1,_,w1⟩:=DataW.trod_int Tryz.underlying3 f1;have e1' : c1 = .int .i64 p1:=by simpa using e1
    subst e1';obtain ⟨p2,e2,_,w2⟩:=DataW.trod_int Tryz.underlying3 f2;have e2' : c2 = .int .i64 p2:=by simpa using e2
    subst e2';obtain ⟨p3,e3,_⟩:=DataW.trod_bool Tryz.underlying4 f3;have e3' : c3 = .bool p3:=by simpa using e3
    subst e3';exact ⟨p0,p1,p2,p3,rfl,w0,w1,w2⟩
theorem open_hns {fuel : Nat} {v : Value} {x : DataW H × List MemPlace} (h : DataW.trod enc Tryz.prog w 0 (fun _ => true) true fuel 34 [v] = some x) : ∃ A n c l,v = .slice A n c ∧ Rws hnE w (.slice A n c) l :=
  open_rws (s:=4) (fun _ => rfl) (by decide) Tryz.underlying34 (by kernel_rfl) (fun h => by
    obtain ⟨j_x,j_f,j_s,o_o,e,_⟩:=open_hn h
    exact ⟨⟨j_x,j_f,j_s,o_o⟩,e⟩) h
structure VmWf (k : VmK) : Prop where
  cm : (Lit.int .i64 k.cm).wf = true
  cd : (Lit.int .i64 k.cd).wf = true
  cr : (Lit.int .i64 k.cr).wf = true
  cw : (Lit.int .i64 k.cw).wf = true
  co : (Lit.int .i64 k.co).wf = true
  here : (Lit.int .i64 k.here).wf = true
  last : (Lit.int .i64 k.last).wf = true
  free : (Lit.int .i64 k.free).wf = true
  next : (Lit.int .i64 k.next).wf = true
  arg : (Lit.int .i64 k.arg).wf = true
  self : (Lit.int .i64 k.self).wf = true
  now : (Lit.int .i64 k.now).wf = true
theorem open_conf {fuel : Nat} {cs : List Value} {x : DataW H × List MemPlace} (h : DataW.trod enc Tryz.prog w 0 (fun _ => true) true fuel 23 cs = some x) : ∃ j_m j_d j_r j_w j_o,cs = [.int .i64 j_m,.int .i64 j_d,.int .i64 j_r,.int .i64 j_w,.int .i64 j_o] ∧ (Lit.int .i64 j_m).wf = true ∧ (Lit.int .i64 j_d).wf = true ∧ (Lit.int .i64 j_r).wf = true ∧ (Lit.int .i64 j_w).wf = true ∧ (Lit.int .i64 j_o).wf = true:=by
  obtain ⟨ys,n,_,_,hlen,hyl,hf⟩:=DataW.trod_struct Tryz.underlying23 h;have h2 : cs.length = 5:=hlen.trans (by kernel_rfl);have hy2 : ys.length = 5:=hyl
  match cs,h2 with
  | [c0,c1,c2,c3,c4],_ =>
    have f0 : DataW.trod enc Tryz.prog w 0 (fun _ => true) true n 3 (([c0,c1,c2,c3,c4].drop 0).take (Tryz.prog.cellsOf 3)) = ys[0]?:=hf 0 _ rfl;rw [show Tryz.prog.cellsOf 3 = 1 by kernel_rfl] at f0;rw [show ys[0]? = some (ys[0]'(by omega)) from List.getElem?_eq_getElem _] at f0;have f1 : DataW.trod enc Tryz.prog w 0 (fun _ => true) true n 3 (([c0,c1,c2,c3,c4].drop 1).take (Tryz.prog.cellsOf 3)) = ys[1]?:=hf 1 _ rfl;rw [show Tryz.prog.cellsOf 3 = 1 by kernel_rfl] at f1;rw [show ys[1]? = some (ys[1]'(by omega)) from List.getElem?_eq_getElem _] at f1;have f2 : DataW.trod enc Tryz.prog w 0 (fun _ => true) true n 3 (([c0,c1,c2,c3,c4].drop 2).take (Tryz.prog.cellsOf 3)) = ys[2]?:=hf 2 _ rfl;rw [show Tryz.prog.cellsOf 3 = 1 by kernel_rfl] at f2;rw [show ys[2]? = some (ys[2]'(by omega)) from List.getElem?_eq_getElem _] at f2;have f3 : DataW.trod enc Tryz.prog w 0 (fun _ => true) true n 3 (([c0,c1,c2,c3,c4].drop 3).take (Tryz.prog.cellsOf 3)) = ys[3]?:=hf 3 _ rfl;rw [show Tryz.prog.cellsOf 3 = 1 by kernel_rfl] at f3;rw [show ys[3]? = some (ys[3]'(by omega)) from List.getElem?_eq_getElem _] at f3;have f4 : DataW.trod enc Tryz.prog w 0 (fun _ => true) true n 3 (([c0,c1,c2,c3,c4].drop 4).take (Tryz.prog.cellsOf 3)) = ys[4]?:=hf 4 _ rfl;rw [show Tryz.prog.cellsOf 3 = 1 by kernel_rfl] at f4;rw [show ys[4]? = some (ys[4]'(by omega)) from List.getElem?_eq_getElem _] at f4;obtain ⟨p0,e0,_,w0⟩:=DataW.trod_int Tryz.underlying3 f0;have e0' : c0 = .int .i64 p0:=by simpa using e0
    subst e0';obtain ⟨p1,e1,_,w1⟩:=DataW.trod_int Tryz.underlying3 f1;have e1' : c1 = .int .i64 p1:=by simpa using e1
    subst e1';obtain ⟨p2,e2,_,w2⟩:=DataW.trod_int Tryz.underlying3 f2;have e2' : c2 = .int .i64 p2:=by simpa using e2
    subst e2';obtain ⟨p3,e3,_,w3⟩:=DataW.trod_int Tryz.underlying3 f3;have e3' : c3 = .int .i64 p3:=by simpa using e3
    subst e3';obtain ⟨p4,e4,_,w4⟩:=DataW.trod_int Tryz.underlying3 f4;have e4' : c4 = .int .i64 p4:=by simpa using e4
    subst e4';exact ⟨p0,p1,p2,p3,p4,rfl,w0,w1,w2,w3,w4⟩
end
end Go.Proofs.YtlgnijhemfkflaaGreatDoor

namespace Go.Proofs.YtlgnijhemfkflaaGreatDoor
open Go.ChangeShapes Go.WideShapes Go.ChangeAt Go.RowKit Go.Joins Go.Deep


section
variable {H : Type} {enc : TypeId × Value → H} {w : World}
theorem open_rowR {fuel : Nat} {v : Value} {x : DataW H × List MemPlace} (h : DataW.trod enc Tryz.prog w 0 (fun _ => true) true fuel 28 [v] = some x) : ∃ A n c l,v = .slice A n c ∧ Row w A n c l ∧ ∀ x ∈ l,cellR x:=by
  rcases open_ints Tryz.underlying28 Tryz.underlying3 (by kernel_rfl) h with ⟨hcs,_⟩ | ⟨a,len,cap,zs,hcs,_,hl,hm,hz,_,hcell,hwz⟩
  · simp at hcs
    exact ⟨_,_,_,_,hcs,row_nil w,fun x hx => by cases hx⟩
  · simp at hcs hz
    refine ⟨_,_,_,zs.take len,hcs,⟨by simp; omega,hl,hm,?_⟩,fun x hx => wf_i64 (hwz x (List.mem_of_mem_take hx))⟩
    by_cases h0 : len = 0
    · subst h0; exact .inl (by simp [ints])
    · obtain ⟨b,off,rfl,hb⟩:=plain_of (hcell 0 (by omega))
      refine .inr ⟨b,off,rfl,hb,fun j v hv => ?_⟩;have hj : j < len:=by have:=(List.getElem?_eq_some_iff.1 hv).1; rw [ints_len] at this; simp at this; omega
      have hjz : j < zs.length:=by omega
      have hc:=hcell j hjz;rw [add_at] at hc;rw [hc];simp [ints,hj,hjz] at hv;rw [← hv];simp [List.getD,List.getElem?_eq_getElem hjz]
theorem open_vmR {fuel : Nat} {cs : List Value} {x : DataW H × List MemPlace} (h : DataW.trod enc Tryz.prog w 0 (fun _ => true) true fuel 36 cs = some x) : ∃ k L,cs = (vmC k).toList ∧ IsVm w k L ∧ VmWf k ∧ ∀ x ∈ L.d,cellR x:=by
  obtain ⟨ys,n,_,_,hlen,hyl,hf⟩:=DataW.trod_struct Tryz.underlying36 h;have h2 : cs.length = 23:=hlen.trans (by kernel_rfl);have hy2 : ys.length = 17:=hyl
  match cs,h2 with
  | [c0,c1,c2,c3,c4,c5,c6,c7,c8,c9,c10,c11,c12,c13,c14,c15,c16,c17,c18,c19,c20,c21,c22],_ =>
    have f0 : DataW.trod enc Tryz.prog w 0 (fun _ => true) true n 23 (([c0,c1,c2,c3,c4,c5,c6,c7,c8,c9,c10,c11,c12,c13,c14,c15,c16,c17,c18,c19,c20,c21,c22].drop 0).take (Tryz.prog.cellsOf 23)) = ys[0]?:=hf 0 _ rfl;rw [show Tryz.prog.cellsOf 23 = 5 by kernel_rfl] at f0;rw [show ys[0]? = some (ys[0]'(by omega)) from List.getElem?_eq_getElem _] at f0;have f1 : DataW.trod enc Tryz.prog w 0 (fun _ => true) true n 27 (([c0,c1,c2,c3,c4,c5,c6,c7,c8,c9,c10,c11,c12,c13,c14,c15,c16,c17,c18,c19,c20,c21,c22].drop 5).take (Tryz.prog.cellsOf 27)) = ys[1]?:=hf 1 _ rfl;rw [show Tryz.prog.cellsOf 27 = 2 by kernel_rfl] at f1;rw [show ys[1]? = some (ys[1]'(by omega)) from List.getElem?_eq_getElem _] at f1;have f2 : DataW.trod enc Tryz.prog w 0 (fun _ => true) true n 3 (([c0,c1,c2,c3,c4,c5,c6,c7,c8,c9,c10,c11,c12,c13,c14,c15,c16,c17,c18,c19,c20,c21,c22].drop 7).take (Tryz.prog.cellsOf 3)) = ys[2]?:=hf 2 _ rfl;rw [show Tryz.prog.cellsOf 3 = 1 by kernel_rfl] at f2;rw [show ys[2]? = some (ys[2]'(by omega)) from List.getElem?_eq_getElem _] at f2;have f3 : DataW.trod enc Tryz.prog w 0 (fun _ => true) true n 28 (([c0,c1,c2,c3,c4,c5,c6,c7,c8,c9,c10,c11,c12,c13,c14,c15,c16,c17,c18,c19,c20,c21,c22].drop 8).take (Tryz.prog.cellsOf 28)) = ys[3]?:=hf 3 _ rfl;rw [show Tryz.prog.cellsOf 28 = 1 by kernel_rfl] at f3;rw [show ys[3]? = some (ys[3]'(by omega)) from List.getElem?_eq_getElem _] at f3;have f4 : DataW.trod enc Tryz.prog w 0 (fun _ => true) true n 28 (([c0,c1,c2,c3,c4,c5,c6,c7,c8,c9,c10,c11,c12,c13,c14,c15,c16,c17,c18,c19,c20,c21,c22].drop 9).take (Tryz.prog.cellsOf 28)) = ys[4]?:=hf 4 _ rfl
    rw [show Tryz.prog.cellsOf 28 = 1 by kernel_rfl] at f4;rw [show ys[4]? = some (ys[4]'(by omega)) from List.getElem?_eq_getElem _] at f4;have f5 : DataW.trod enc Tryz.prog w 0 (fun _ => true) true n 29 (([c0,c1,c2,c3,c4,c5,c6,c7,c8,c9,c10,c11,c12,c13,c14,c15,c16,c17,c18,c19,c20,c21,c22].drop 10).take (Tryz.prog.cellsOf 29)) = ys[5]?:=hf 5 _ rfl;rw [show Tryz.prog.cellsOf 29 = 1 by kernel_rfl] at f5;rw [show ys[5]? = some (ys[5]'(by omega)) from List.getElem?_eq_getElem _] at f5;have f6 : DataW.trod enc Tryz.prog w 0 (fun _ => true) true n 30 (([c0,c1,c2,c3,c4,c5,c6,c7,c8,c9,c10,c11,c12,c13,c14,c15,c16,c17,c18,c19,c20,c21,c22].drop 11).take (Tryz.prog.cellsOf 30)) = ys[6]?:=hf 6 _ rfl;rw [show Tryz.prog.cellsOf 30 = 1 by kernel_rfl] at f6;rw [show ys[6]? = some (ys[6]'(by omega)) from List.getElem?_eq_getElem _] at f6;have f7 : DataW.trod enc Tryz.prog w 0 (fun _ => true) true n 3 (([c0,c1,c2,c3,c4,c5,c6,c7,c8,c9,c10,c11,c12,c13,c14,c15,c16,c17,c18,c19,c20,c21,c22].drop 12).take (Tryz.prog.cellsOf 3)) = ys[7]?:=hf 7 _ rfl;rw [show Tryz.prog.cellsOf 3 = 1 by kernel_rfl] at f7;rw [show ys[7]? = some (ys[7]'(by omega)) from List.getElem?_eq_getElem _] at f7;have f8 : DataW.trod enc Tryz.prog w 0 (fun _ => true) true n 24 (([c0,c1,c2,c3,c4,c5,c6,c7,c8,c9,c10,c11,c12,c13,c14,c15,c16,c17,c18,c19,c20,c21,c22].drop 13).take (Tryz.prog.cellsOf 24)) = ys[8]?:=hf 8 _ rfl;rw [show Tryz.prog.cellsOf 24 = 1 by kernel_rfl] at f8
    rw [show ys[8]? = some (ys[8]'(by omega)) from List.getElem?_eq_getElem _] at f8;have f9 : DataW.trod enc Tryz.prog w 0 (fun _ => true) true n 32 (([c0,c1,c2,c3,c4,c5,c6,c7,c8,c9,c10,c11,c12,c13,c14,c15,c16,c17,c18,c19,c20,c21,c22].drop 14).take (Tryz.prog.cellsOf 32)) = ys[9]?:=hf 9 _ rfl;rw [show Tryz.prog.cellsOf 32 = 2 by kernel_rfl] at f9;rw [show ys[9]? = some (ys[9]'(by omega)) from List.getElem?_eq_getElem _] at f9;have f10 : DataW.trod enc Tryz.prog w 0 (fun _ => true) true n 33 (([c0,c1,c2,c3,c4,c5,c6,c7,c8,c9,c10,c11,c12,c13,c14,c15,c16,c17,c18,c19,c20,c21,c22].drop 16).take (Tryz.prog.cellsOf 33)) = ys[10]?:=hf 10 _ rfl;rw [show Tryz.prog.cellsOf 33 = 1 by kernel_rfl] at f10;rw [show ys[10]? = some (ys[10]'(by omega)) from List.getElem?_eq_getElem _] at f10;have f11 : DataW.trod enc Tryz.prog w 0 (fun _ => true) true n 3 (([c0,c1,c2,c3,c4,c5,c6,c7,c8,c9,c10,c11,c12,c13,c14,c15,c16,c17,c18,c19,c20,c21,c22].drop 17).take (Tryz.prog.cellsOf 3)) = ys[11]?:=hf 11 _ rfl;rw [show Tryz.prog.cellsOf 3 = 1 by kernel_rfl] at f11;rw [show ys[11]? = some (ys[11]'(by omega)) from List.getElem?_eq_getElem _] at f11;have f12 : DataW.trod enc Tryz.prog w 0 (fun _ => true) true n 3 (([c0,c1,c2,c3,c4,c5,c6,c7,c8,c9,c10,c11,c12,c13,c14,c15,c16,c17,c18,c19,c20,c21,c22].drop 18).take (Tryz.prog.cellsOf 3)) = ys[12]?:=hf 12 _ rfl;rw [show Tryz.prog.cellsOf 3 = 1 by kernel_rfl] at f12;rw [show ys[12]? = some (ys[12]'(by omega)) from List.getElem?_eq_getElem _] at f12
    have f13 : DataW.trod enc Tryz.prog w 0 (fun _ => true) true n 3 (([c0,c1,c2,c3,c4,c5,c6,c7,c8,c9,c10,c11,c12,c13,c14,c15,c16,c17,c18,c19,c20,c21,c22].drop 19).take (Tryz.prog.cellsOf 3)) = ys[13]?:=hf 13 _ rfl;rw [show Tryz.prog.cellsOf 3 = 1 by kernel_rfl] at f13;rw [show ys[13]? = some (ys[13]'(by omega)) from List.getElem?_eq_getElem _] at f13;have f14 : DataW.trod enc Tryz.prog w 0 (fun _ => true) true n 3 (([c0,c1,c2,c3,c4,c5,c6,c7,c8,c9,c10,c11,c12,c13,c14,c15,c16,c17,c18,c19,c20,c21,c22].drop 20).take (Tryz.prog.cellsOf 3)) = ys[14]?:=hf 14 _ rfl;rw [show Tryz.prog.cellsOf 3 = 1 by kernel_rfl] at f14;rw [show ys[14]? = some (ys[14]'(by omega)) from List.getElem?_eq_getElem _] at f14;have f15 : DataW.trod enc Tryz.prog w 0 (fun _ => true) true n 3 (([c0,c1,c2,c3,c4,c5,c6,c7,c8,c9,c10,c11,c12,c13,c14,c15,c16,c17,c18,c19,c20,c21,c22].drop 21).take (Tryz.prog.cellsOf 3)) = ys[15]?:=hf 15 _ rfl;rw [show Tryz.prog.cellsOf 3 = 1 by kernel_rfl] at f15;rw [show ys[15]? = some (ys[15]'(by omega)) from List.getElem?_eq_getElem _] at f15;have f16 : DataW.trod enc Tryz.prog w 0 (fun _ => true) true n 34 (([c0,c1,c2,c3,c4,c5,c6,c7,c8,c9,c10,c11,c12,c13,c14,c15,c16,c17,c18,c19,c20,c21,c22].drop 22).take (Tryz.prog.cellsOf 34)) = ys[16]?:=hf 16 _ rfl;rw [show Tryz.prog.cellsOf 34 = 1 by kernel_rfl] at f16;rw [show ys[16]? = some (ys[16]'(by omega)) from List.getElem?_eq_getElem _] at f16
    obtain ⟨a0,a1,a2,a3,a4,e0,u0,u1,u2,u3,u4⟩:=open_conf f0;obtain ⟨rfl,rfl,rfl,rfl,rfl⟩ : c0 = .int .i64 a0 ∧ c1 = .int .i64 a1 ∧ c2 = .int .i64 a2 ∧ c3 = .int .i64 a3 ∧ c4 = .int .i64 a4:=by simpa using e0
    obtain ⟨A1,L1,g1,P1,K1,d1,m1,e1,hm1⟩:=open_mem f1;obtain ⟨rfl,rfl⟩ : c5 = .slice A1 L1 g1 ∧ c6 = .slice P1 K1 d1:=by simpa using e1
    obtain ⟨p2,e2,_,w2⟩:=DataW.trod_int Tryz.underlying3 f2;have e2' : c7 = .int .i64 p2:=by simpa using e2
    subst e2';obtain ⟨B3,l3,z3,b3,e3,hb3,hr3⟩:=open_rowR f3;have e3' : c8 = .slice B3 l3 z3:=e3;subst e3';obtain ⟨B4,l4,z4,b4,e4,hb4⟩:=open_row f4;have e4' : c9 = .slice B4 l4 z4:=e4;subst e4';obtain ⟨B5,l5,z5,b5,e5,hb5⟩:=open_fms f5;have e5' : c10 = .slice B5 l5 z5:=e5;subst e5';obtain ⟨b6,hb6⟩:=open_wds f6;obtain ⟨B6,l6,z6,e6⟩:=wds_slice hb6;have e6' : c11 = .slice B6 l6 z6:=e6;subst e6';obtain ⟨p7,e7,_,w7⟩:=DataW.trod_int Tryz.underlying3 f7;have e7' : c12 = .int .i64 p7:=by simpa using e7
    subst e7';obtain ⟨b8,hb8⟩:=open_byt f8;obtain ⟨B8,l8,z8,e8⟩:=hb8.slice;have e8' : c13 = .slice B8 l8 z8:=e8;subst e8';obtain ⟨A9,L9,g9,m9,p9,e9,hm9⟩:=open_pic f9;obtain ⟨rfl,rfl⟩ : c14 = .slice A9 L9 g9 ∧ c15 = .bool p9:=by simpa using e9
    obtain ⟨B10,l10,z10,b10,e10,hb10⟩:=open_rqs f10;have e10' : c16 = .slice B10 l10 z10:=e10;subst e10';obtain ⟨p11,e11,_,w11⟩:=DataW.trod_int Tryz.underlying3 f11;have e11' : c17 = .int .i64 p11:=by simpa using e11
    subst e11';obtain ⟨p12,e12,_,w12⟩:=DataW.trod_int Tryz.underlying3 f12;have e12' : c18 = .int .i64 p12:=by simpa using e12
    subst e12';obtain ⟨p13,e13,_,w13⟩:=DataW.trod_int Tryz.underlying3 f13;have e13' : c19 = .int .i64 p13:=by simpa using e13
    subst e13';obtain ⟨p14,e14,_,w14⟩:=DataW.trod_int Tryz.underlying3 f14;have e14' : c20 = .int .i64 p14:=by simpa using e14
    subst e14';obtain ⟨p15,e15,_,w15⟩:=DataW.trod_int Tryz.underlying3 f15;have e15' : c21 = .int .i64 p15:=by simpa using e15
    subst e15';obtain ⟨B16,l16,z16,b16,e16,hb16⟩:=open_hns f16;have e16' : c22 = .slice B16 l16 z16:=e16;subst e16';exact ⟨{ cm:=a0,cd:=a1,cr:=a2,cw:=a3,co:=a4,mA:=A1,mn:=L1,mc:=g1,pA:=P1,pn:=K1,pc:=d1,here:=p2,dA:=B3,dn:=l3,dc:=z3,rA:=B4,rn:=l4,rc:=z4,fA:=B5,fn:=l5,fc:=z5,wA:=B6,wn:=l6,wc:=z6,last:=p7,oA:=B8,on:=l8,oc:=z8,qA:=A9,qn:=L9,qc:=g9,qo:=p9,eA:=B10,en:=l10,ec:=z10,free:=p11,next:=p12,arg:=p13,self:=p14,now:=p15,hA:=B16,hn:=l16,hc:=z16 },{ m:=m1,d:=b3,r:=b4,f:=b5,dict:=b6,o:=b8,q:=m9,e:=b10,h:=b16 },rfl,⟨hm1,hb3,hb4,hb5,hb6,hb8,hm9,hb10,hb16⟩,⟨u0,u1,u2,u3,u4,w2,w7,w11,w12,w13,w14,w15⟩,hr3⟩
end
theorem ok_may {k : VmK} {L : VmL} (h : vMay k L = true) (l : Lens k L) (hr : ∀ x ∈ L.d,cellR x) : Ok k L:=by
  unfold vMay at h;rw [Bool.and_eq_true] at h;obtain ⟨h1,h2⟩:=h;have hf:=h1;obtain ⟨f1,f2,f3,f4,f5,f6,f7,f8⟩:=few_of h1 l;obtain ⟨c1,c2,c3,c4,c5,c6,c7,c8⟩:=conf_of h2;have hp : L.m.2.length ≤ 60:=by
    unfold vFew at hf;simp only [Bool.and_eq_true] at hf;have:=hf.1;unfold fewB at this;simp only [Bool.and_eq_true,decide_eq_true_eq] at this;exact this.1.2
  unfold vRight at h2;simp only [Bool.and_eq_true] at h2;obtain ⟨_,_,_,g4,g5,_,_,g8⟩:=h2;have q:=(pRight_iff _ _).1 g4;unfold headB at g5;rw [decide_eq_true_eq] at g5;have hm:=l.m;exact ⟨by omega,f1,by omega,by omega,hr,by omega,by omega,by omega,by omega,by omega,by omega,by omega,by omega,by omega,by omega,by omega⟩
end Go.Proofs.YtlgnijhemfkflaaGreatDoor
