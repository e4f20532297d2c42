/- Part 15. -/
import Derived.Test.YtcmldhjicjmmgaaGreatDoorXkAN
set_option linter.unusedVariables false
set_option linter.unusedSimpArgs false
set_option maxRecDepth 100000
set_option maxHeartbeats 4000000

namespace Go.Proofs.YtcmldhjicjmmgaaGreatDoor
open Go.RowKit


structure Eff where
  c : Int
  o : List Int
  K : VmK
  L : VmL
def truthN (b : Bool) : Int:=if b = true then -1 else 0
def memE (k : VmK) (L : VmL) (m : PM) (c : Int) : Eff:=⟨c,[],k,{ L with m:=m }⟩
def hereE (k : VmK) (L : VmL) (m : PM) (p c : Int) : Eff:=⟨c,[],{ k with here:=p },{ L with m:=m }⟩
def printE (k : VmK) (L : VmL) (s : List UInt8) (c : Int) : Eff:=⟨if c = 0 then printC L.o s k.co else c,[],k,printV k L s⟩
def picE (k : VmK) (L : VmL) (q : List UInt8) (on : Bool) (o : List Int) (c : Int) : Eff:=⟨c,o,{ k with qo:=on },{ L with q:=q }⟩
def twoC (n : Nat) (a : Int) : Int:=if cellC n a = 0 then cellC n (wrap64 (a + 8)) else cellC n a
def blanksL (n co : Int) : List UInt8:=List.replicate (min n.toNat (co.toNat + 1)) 32
def bodyC (m : PM) (n : Nat) (a : Int) : Int:=if kindC m n a = 0 then (if 257 ≤ kindV m n a ∧ kindV m n a ≤ 260 then 0 else -31) else kindC m n a
def hasB (L : VmL) (h r : Int) : Bool:=decide (0 ≤ h ∧ h < (L.h.length : Int) ∧ 0 ≤ r ∧ r < 4)
def postC (L : VmL) : Int:=if L.e.length < 16 then 0 else -257
def timerC (k : VmK) (L : VmL) (h r d : Int) : Int:=if hasB L h r = true then (if 1 ≤ d ∧ d < 4294967296 then (if postC L = 0 then (if k.free = 0 ∨ k.next = 4611686018427387904 then -258 else 0) else -257) else -24) else -259
def timerE (k : VmK) (L : VmL) (kind x h r d : Int) : Eff:=⟨timerC k L h r d,[k.next],{ k with next:=wrap64 (k.next + 1),free:=wrap64 (k.free - 1) },{ L with e:=L.e ++ [⟨kind,x,h,r,d,k.next⟩] }⟩
def stateP (b s : Int) : Int:=wrap64 (wrap64 (b + 16) + wrap64 (8 * s))
def stateC (m : PM) (b s p : Int) : Int:=if cellC m.1.length (wrap64 (b + 8)) = 0 then (if 0 ≤ s ∧ s < fetchF m (wrap64 (b + 8)) then cellC m.1.length p else -24) else cellC m.1.length (wrap64 (b + 8))
def twoE (s : List UInt8) (k : VmK) (L : VmL) (a b : Int) : Eff:=⟨divC s b,[(twoF s a b).getD 0],k,L⟩
def oneE (s : List UInt8) (k : VmK) (L : VmL) (a : Int) : Eff:=⟨0,[(oneF s a).getD 0],k,L⟩
def e73 (k : VmK) (L : VmL) (a : Int) (b : Int) : Eff:=⟨dc b,[dr a b,dq a b],k,L⟩
def e74 (k : VmK) (L : VmL) (a : Int) (b : Int) (c : Int) : Eff:=⟨fc (umLo a b) (smHi a b) c,[fq (umLo a b) (smHi a b) c],k,L⟩
def e75 (k : VmK) (L : VmL) (a : Int) (b : Int) (c : Int) : Eff:=⟨fc (umLo a b) (smHi a b) c,[fr (umLo a b) (smHi a b) c,fq (umLo a b) (smHi a b) c],k,L⟩
def e76 (k : VmK) (L : VmL) (a : Int) (b : Int) : Eff:=⟨0,[umLo a b,umHi a b],k,L⟩
def e77 (k : VmK) (L : VmL) (a : Int) (b : Int) (c : Int) : Eff:=⟨uc b c,[ur a b c,uq a b c],k,L⟩
def e78 (k : VmK) (L : VmL) (a : Int) (b : Int) : Eff:=⟨0,[umLo a b,smHi a b],k,L⟩
def e79 (k : VmK) (L : VmL) (a : Int) (b : Int) (c : Int) : Eff:=⟨sc a b c,[sr a b c,sq a b c],k,L⟩
def e80 (k : VmK) (L : VmL) (a : Int) (b : Int) (c : Int) : Eff:=⟨fc a b c,[fr a b c,fq a b c],k,L⟩
def e81 (k : VmK) (L : VmL) (a : Int) : Eff:=⟨0,[a,truthN (decide (a < 0))],k,L⟩
def e82 (k : VmK) (L : VmL) (a : Int) (b : Int) (c : Int) : Eff:=⟨0,[truthN (withinB a b c)],k,L⟩
def e83 (k : VmK) (L : VmL) (a : Int) : Eff:=⟨cellC L.m.1.length a,[fetchF L.m a],k,L⟩
def e84 (k : VmK) (L : VmL) (a : Int) (b : Int) : Eff:=memE k L (storeF L.m b a) (cellC L.m.1.length b)
def e85 (k : VmK) (L : VmL) (a : Int) (b : Int) : Eff:=memE k L (storeF L.m b (wrap64 (fetchF L.m b + a))) (cellC L.m.1.length b)
def e86 (k : VmK) (L : VmL) (a : Int) : Eff:=⟨codeF (okB L.m.1.length a 1),[byteF L.m a],k,L⟩
def e87 (k : VmK) (L : VmL) (a : Int) (b : Int) : Eff:=memE k L (writeF L.m b [lowB a]) (codeF (okB L.m.1.length b 1))
def e88 (k : VmK) (L : VmL) (a : Int) : Eff:=⟨twoC L.m.1.length a,[fetchF L.m (wrap64 (a + 8)),fetchF L.m a],k,L⟩
def e89 (k : VmK) (L : VmL) (a : Int) (b : Int) (c : Int) : Eff:=memE k L (storeF (storeF L.m c b) (wrap64 (c + 8)) a) (twoC L.m.1.length c)
def e90 (k : VmK) (L : VmL) (a : Int) (b : Int) (c : Int) : Eff:=memE k L (fillF L.m a b c) (codeF (okB L.m.1.length a b))
def e91 (k : VmK) (L : VmL) (a : Int) (b : Int) (c : Int) : Eff:=memE k L (moveF L.m a b c) (moveC L.m a b c)
def e92 (k : VmK) (L : VmL) (a : Int) : Eff:=⟨codeF (okB L.m.1.length a 1),[wrap64 (a + 1),byteF L.m a],k,L⟩
def e93 (k : VmK) (L : VmL) : Eff:=⟨0,[k.here],k,L⟩
def e94 (k : VmK) (L : VmL) (a : Int) : Eff:=hereE k L L.m (movP L.m.1.length 1368 k.here a) (movC L.m.1.length 1368 k.here a)
def e95 (k : VmK) (L : VmL) (a : Int) : Eff:=hereE k L (comM L.m k.here a) (comP L.m.1.length k.here) (comC L.m.1.length k.here)
def e96 (k : VmK) (L : VmL) (a : Int) : Eff:=hereE k L (layM L.m k.here [lowB a]) (layP L.m.1.length k.here 1) (layC L.m.1.length k.here 1)
def e97 (k : VmK) (L : VmL) : Eff:=hereE k L (layM L.m k.here (upB k.here)) (layP L.m.1.length k.here (misN k.here)) (layC L.m.1.length k.here (misN k.here))
def e98 (k : VmK) (L : VmL) : Eff:=⟨0,[0],k,L⟩
def e99 (k : VmK) (L : VmL) : Eff:=⟨0,[8],k,L⟩
def e100 (k : VmK) (L : VmL) : Eff:=⟨0,[-1],k,L⟩
def e101 (k : VmK) (L : VmL) : Eff:=⟨0,[0],k,L⟩
def e102 (k : VmK) (L : VmL) : Eff:=⟨0,[32],k,L⟩
def e103 (k : VmK) (L : VmL) : Eff:=memE k L (storeF L.m 0 10) (cellC L.m.1.length 0)
def e104 (k : VmK) (L : VmL) : Eff:=memE k L (storeF L.m 0 16) (cellC L.m.1.length 0)
def e105 (k : VmK) (L : VmL) (a : Int) : Eff:=printE k L [lowB a] 0
def e106 (k : VmK) (L : VmL) : Eff:=printE k L [10] 0
def e107 (k : VmK) (L : VmL) : Eff:=printE k L [32] 0
def e108 (k : VmK) (L : VmL) (a : Int) : Eff:=printE k L (blanksL a k.co) 0
def e109 (k : VmK) (L : VmL) (a : Int) (b : Int) : Eff:=printE k L (textF L.m a b) (codeF (okB L.m.1.length a b))
def e110 (k : VmK) (L : VmL) (a : Int) : Eff:=printE k L (showF a (fetchF L.m 0) ++ [32]) (showC (fetchF L.m 0))
def e111 (k : VmK) (L : VmL) (a : Int) : Eff:=printE k L (ushowF a (fetchF L.m 0) ++ [32]) (showC (fetchF L.m 0))
def e112 (k : VmK) (L : VmL) : Eff:=picE k L [] true [] 0
def e113 (k : VmK) (L : VmL) (a : Int) (b : Int) : Eff:=picE k L (digL k.qo L.q a b (fetchF L.m 0)) k.qo [digLo k.qo L.q a b (fetchF L.m 0),digHi k.qo L.q a b (fetchF L.m 0)] (digC k.qo L.q (fetchF L.m 0))
def e114 (k : VmK) (L : VmL) (a : Int) (b : Int) : Eff:=picE k L (allL k.qo L.q a b (fetchF L.m 0)) k.qo [0,0] (allC k.qo L.q a b (fetchF L.m 0))
def e115 (k : VmK) (L : VmL) (a : Int) : Eff:=picE k L (holdL k.qo L.q a) k.qo [] (holdC k.qo L.q)
def e116 (k : VmK) (L : VmL) (a : Int) : Eff:=picE k L (signL k.qo L.q a) k.qo [] (signC k.qo L.q a)
def e117 (k : VmK) (L : VmL) (a : Int) (b : Int) : Eff:=⟨if endC k.qo = 0 then codeF (okB L.m.1.length ((L.m.1.length : Int) - 136) (endL k.qo L.q).length) else endC k.qo,[(L.m.1.length : Int) - 136,((endL k.qo L.q).length : Int)],{ k with qo:=false },{ L with m:=writeF L.m ((L.m.1.length : Int) - 136) (endL k.qo L.q),q:=[] }⟩
def e118 (k : VmK) (L : VmL) (a : Int) : Eff:=⟨bodyC L.m L.m.1.length a,[wrap64 (a + 16)],k,L⟩
def e119 (k : VmK) (L : VmL) : Eff:=⟨-1,[],k,L⟩
def e120 (k : VmK) (L : VmL) (a : Int) (b : Int) (c : Int) : Eff:=⟨if hasB L b c = true then postC L else -259,[],k,{ L with e:=L.e ++ [⟨1,a,b,c,0,0⟩] }⟩
def e121 (k : VmK) (L : VmL) (a : Int) (b : Int) (c : Int) (d : Int) : Eff:=timerE k L 2 a b c d
def e122 (k : VmK) (L : VmL) (a : Int) (b : Int) (c : Int) (d : Int) : Eff:=timerE k L 3 a b c d
def e123 (k : VmK) (L : VmL) (a : Int) : Eff:=⟨postC L,[],k,{ L with e:=L.e ++ [⟨4,0,0,0,0,a⟩] }⟩
def e124 (k : VmK) (L : VmL) : Eff:=⟨0,[k.arg],k,L⟩
def e125 (k : VmK) (L : VmL) : Eff:=⟨0,[k.self],k,L⟩
def e126 (k : VmK) (L : VmL) : Eff:=⟨0,[k.now],k,L⟩
def e127 (k : VmK) (L : VmL) (a : Int) (b : Int) : Eff:=memE k L (storeF L.m b a) (stateC L.m b a b)
def e128 (k : VmK) (L : VmL) (a : Int) (b : Int) (c : Int) : Eff:=memE k L (storeF L.m (stateP c b) a) (stateC L.m c b (stateP c b))
def e129 (k : VmK) (L : VmL) (a : Int) : Eff:=⟨cellC L.m.1.length a,[fetchF L.m a],k,L⟩
def nmP (n : Nat) : List UInt8:=primL.getD n []
def effs : List (VmK → VmL → List Int → Eff):=[fun k L x => e73 k L (x.getD 0 0) (x.getD 1 0),fun k L x => e74 k L (x.getD 0 0) (x.getD 1 0) (x.getD 2 0),fun k L x => e75 k L (x.getD 0 0) (x.getD 1 0) (x.getD 2 0),fun k L x => e76 k L (x.getD 0 0) (x.getD 1 0),fun k L x => e77 k L (x.getD 0 0) (x.getD 1 0) (x.getD 2 0),fun k L x => e78 k L (x.getD 0 0) (x.getD 1 0),fun k L x => e79 k L (x.getD 0 0) (x.getD 1 0) (x.getD 2 0),fun k L x => e80 k L (x.getD 0 0) (x.getD 1 0) (x.getD 2 0),fun k L x => e81 k L (x.getD 0 0),fun k L x => e82 k L (x.getD 0 0) (x.getD 1 0) (x.getD 2 0),fun k L x => e83 k L (x.getD 0 0),fun k L x => e84 k L (x.getD 0 0) (x.getD 1 0),fun k L x => e85 k L (x.getD 0 0) (x.getD 1 0),fun k L x => e86 k L (x.getD 0 0),fun k L x => e87 k L (x.getD 0 0) (x.getD 1 0),fun k L x => e88 k L (x.getD 0 0),fun k L x => e89 k L (x.getD 0 0) (x.getD 1 0) (x.getD 2 0),fun k L x => e90 k L (x.getD 0 0) (x.getD 1 0) (x.getD 2 0),fun k L x => e91 k L (x.getD 0 0) (x.getD 1 0) (x.getD 2 0),fun k L x => e92 k L (x.getD 0 0),fun k L x => e93 k L,fun k L x => e94 k L (x.getD 0 0),fun k L x => e95 k L (x.getD 0 0),fun k L x => e96 k L (x.getD 0 0),fun k L x => e97 k L,fun k L x => e98 k L,fun k L x => e99 k L,fun k L x => e100 k L,fun k L x => e101 k L,fun k L x => e102 k L,fun k L x => e103 k L,fun k L x => e104 k L,fun k L x => e105 k L (x.getD 0 0),fun k L x => e106 k L,fun k L x => e107 k L,fun k L x => e108 k L (x.getD 0 0),fun k L x => e109 k L (x.getD 0 0) (x.getD 1 0),fun k L x => e110 k L (x.getD 0 0),fun k L x => e111 k L (x.getD 0 0),fun k L x => e112 k L,fun k L x => e113 k L (x.getD 0 0) (x.getD 1 0),fun k L x => e114 k L (x.getD 0 0) (x.getD 1 0),fun k L x => e115 k L (x.getD 0 0),fun k L x => e116 k L (x.getD 0 0),fun k L x => e117 k L (x.getD 0 0) (x.getD 1 0),fun k L x => e118 k L (x.getD 0 0),fun k L x => e119 k L,fun k L x => e120 k L (x.getD 0 0) (x.getD 1 0) (x.getD 2 0),fun k L x => e121 k L (x.getD 0 0) (x.getD 1 0) (x.getD 2 0) (x.getD 3 0),fun k L x => e122 k L (x.getD 0 0) (x.getD 1 0) (x.getD 2 0) (x.getD 3 0),fun k L x => e123 k L (x.getD 0 0),fun k L x => e124 k L,fun k L x => e125 k L,fun k L x => e126 k L,fun k L x => e127 k L (x.getD 0 0) (x.getD 1 0),fun k L x => e128 k L (x.getD 0 0) (x.getD 1 0) (x.getD 2 0),fun k L x => e129 k L (x.getD 0 0)]
def effF (n : Nat) (k : VmK) (L : VmL) (x : List Int) : Eff:=if n < 59 then twoE (nmP n) k L (x.getD 0 0) (x.getD 1 0) else if n < 73 then oneE (nmP n) k L (x.getD 0 0) else (effs.getD (n - 73) fun k L _ => ⟨0,[],k,L⟩) k L x
def takesL : List Nat:=[2,3,3,2,3,2,3,3,1,3,1,2,2,1,2,1,3,3,3,1,0,1,1,1,0,0,0,0,0,0,0,0,1,0,0,1,2,1,1,0,2,2,1,1,2,1,0,3,4,4,1,0,0,0,2,3,1]
def takesF (n : Nat) : Nat:=if n < 59 then 2 else if n < 73 then 1 else takesL.getD (n - 73) 0
def deedE (t : Nat) (f : VmK → VmL → List Int → Eff) (k : VmK) (L : VmL) : Eff :=
  if L.d.length < t then ⟨-4,[],k,L⟩
  else if (f k L (L.d.drop (L.d.length - t))).c = 0 then
    (if k.cd < ((L.d.length - t + (f k L (L.d.drop (L.d.length - t))).o.length : Nat) : Int) then ⟨-3,[],k,L⟩
     else ⟨0,[],(f k L (L.d.drop (L.d.length - t))).K,{ (f k L (L.d.drop (L.d.length - t))).L with d:=L.d.take (L.d.length - t) ++ (f k L (L.d.drop (L.d.length - t))).o }⟩)
  else ⟨(f k L (L.d.drop (L.d.length - t))).c,[],k,L⟩
def shufE (s : List UInt8) (k : VmK) (L : VmL) : Eff:=⟨codeR (resF (kindF s) L.d) k.cd,[],k,{ L with d:=listR (resF (kindF s) L.d) L.d k.cd }⟩
def doE (n : Int) (k : VmK) (L : VmL) : Eff :=
  if 23 ≤ n ∧ n ≤ 129 then (if n ≤ 38 then shufE (nmP n.toNat) k L else deedE (takesF n.toNat) (effF n.toNat) k L) else ⟨-24,[],k,L⟩


structure Ok (k : VmK) (L : VmL) : Prop where
  m1 : 2048 ≤ L.m.1.length
  m2 : L.m.1.length ≤ 8192
  m3 : L.m.2.length ≤ 900
  d1 : L.d.length ≤ 400
  dr : ∀ x ∈ L.d,cellR x
  o1 : L.o.length ≤ 60000
  q1 : L.q.length ≤ 900
  e1 : L.e.length ≤ 100
  h1 : L.h.length ≤ 1000
  co0 : 0 ≤ k.co
  co1 : k.co ≤ 65536
  cd0 : 0 ≤ k.cd
  cd1 : k.cd ≤ 256
  hr0 : 1368 ≤ k.here
  hr1 : k.here ≤ (L.m.1.length : Int)
  cm : k.cm = (L.m.1.length : Int)
structure MLoc (B : Nat) (j k : VmK) : Prop where
  p : NewA B j.pA j.pn k.pA k.pn
  d : NewA B j.dA j.dn k.dA k.dn
  e : NewA B j.eA j.en k.eA k.en
  r : j.rA = k.rA ∧ j.rn = k.rn
  f : j.fA = k.fA ∧ j.fn = k.fn
  w : j.wA = k.wA ∧ j.wn = k.wn
  h : j.hA = k.hA ∧ j.hn = k.hn
theorem MLoc.refl (B : Nat) (k : VmK) : MLoc B k k:=⟨.refl _ _ _,.refl _ _ _,.refl _ _ _,⟨rfl,rfl⟩,⟨rfl,rfl⟩,⟨rfl,rfl⟩,⟨rfl,rfl⟩⟩
theorem MLoc.le {B B' : Nat} {j k : VmK} (h : MLoc B j k) (hb : B' ≤ B) : MLoc B' j k:=⟨h.p.le hb,h.d.le hb,h.e.le hb,h.r,h.f,h.w,h.h⟩
theorem lies_across {w u u' : World} {A A0 : Option Addr} {n n0 s B : Nat} {xs xs0 : List Value} (hs : 0 < s) (h0 : Lies w A0 xs0) (h : Lies u A xs) (e0 : xs0.length = n0 * s) (e1 : xs.length = n * s) (l : NewA B A n A0 n0)
    (hz : u.heap.size ≤ u'.heap.size) (hk : ∀ g,(g < w.heap.size ∨ B ≤ g) → g < u.heap.size → u'.heap[g]? = u.heap[g]?) : Lies u' A xs:=by
  rcases h with h | ⟨g,o,e,hg,hc⟩
  · exact .inl h
  · by_cases hx : xs = []
    · exact .inl hx
    · have hgg : g < w.heap.size ∨ B ≤ g:=by
        rcases l with ⟨rfl,rfl⟩ | l
        · rcases h0 with h0 | ⟨g',o',e',hg',_⟩
          · rw [h0] at e0
            have : xs.length = 0:=by rw [e1,← e0]; rfl
            exact absurd (List.eq_nil_of_length_eq_zero this) hx
          · rw [e] at e'
            injection e' with e'
            injection e' with e1
            exact .inl (e1 ▸ hg')
        · exact .inr (l _ e)
      refine .inr ⟨g,o,e,Nat.lt_of_lt_of_le hg hz,fun j v hv => ?_⟩;have:=hc j v hv;unfold World.cell? at this ⊢;rw [hk g hgg hg];exact this
def NoU8 (w : World) (g : Nat) : Prop:=∀ o x,w.cell? ⟨g,o,none⟩ ≠ some (.int .u8 x)
theorem vbox_nou8 {w : World} {b : Nat} {k : VmK} (h : VBox w b k) : NoU8 w b:=by
  intro o x e;unfold VBox at h;unfold World.cell? at e;rw [h] at e;have e' : (vmC k)[o]? = some (.int .u8 x):=by simpa using e
  have hm:=Array.mem_of_getElem? e';simp at hm
theorem byt_across {u u' : World} {v : Value} {l : List UInt8} (h : Byt u v l) (hz : u.heap.size ≤ u'.heap.size) (hv : ∀ g,g < u.heap.size → u'.heap[g]? = u.heap[g]? ∨ NoU8 u g) : Byt u' v l:=by
  obtain ⟨A,c,e1,e2,e3,h4⟩:=h;refine ⟨A,c,e1,e2,e3,?_⟩
  rcases h4 with h4 | ⟨g,o,e,hg,hc⟩
  · exact .inl h4
  · rcases hv g hg with hg2 | hz2
    · refine .inr ⟨g,o,e,Nat.lt_of_lt_of_le hg hz,fun j v hv => ?_⟩
      have:=hc j v hv;unfold World.cell? at this ⊢;rw [hg2];exact this
    · cases l with
      | nil => exact .inl rfl
      | cons a l => exact absurd (hc 0 _ rfl) (hz2 _ _)
theorem rws_across {α : Type} {enc : α → List Value} {w u u' : World} {A A0 : Option Addr} {n n0 c c0 s B : Nat} {l l0 : List α} (hs : ∀ x,(enc x).length = s) (h9 : 0 < s) (h0 : Rws enc w (.slice A0 n0 c0) l0) (h : Rws enc u (.slice A n c) l) (lo : NewA B A n A0 n0)
    (hz : u.heap.size ≤ u'.heap.size) (hk : ∀ g,(g < w.heap.size ∨ B ≤ g) → g < u.heap.size → u'.heap[g]? = u.heap[g]?) : Rws enc u' (.slice A n c) l:=by
  have hl:=h.len;have gl:=h0.len;have k1 : ∀ q : List α,(q.flatMap enc).length = q.length * s:=by
    intro q;rw [List.length_flatMap,show (q.map fun x => (enc x).length) = q.map fun _ => s from List.map_congr_left fun x _ => hs x,List.map_const',List.sum_replicate_nat]
  have h4:=lies_across h9 h0.lies h.lies (n0:=n0) (n:=n) (by rw [k1,gl]) (by rw [k1,hl]) lo hz hk;obtain ⟨A',c',e1,e2,e3,_⟩:=h
  exact ⟨A',c',e1,e2,e3,by
    injection e1 with e1 _ _
    subst e1
    exact h4⟩
theorem IsVm.across {w u u' : World} {k j : VmK} {L0 L : VmL} {B : Nat} (h0 : IsVm w k L0) (h : IsVm u j L) (l : MLoc B j k) (hz : u.heap.size ≤ u'.heap.size)
    (hk : ∀ g,(g < w.heap.size ∨ B ≤ g) → g < u.heap.size → u'.heap[g]? = u.heap[g]?) (hv : ∀ g,g < u.heap.size → u'.heap[g]? = u.heap[g]? ∨ NoU8 u g) : IsVm u' j L:=by
  refine ⟨?_,?_,?_,?_,?_,byt_across h.o hz hv,byt_across h.q hz hv,?_,?_⟩
  · obtain ⟨b,o,e,hb,A,c,qs,h1,h2,h3,h4,h5⟩:=h.m
    obtain ⟨b0,o0,f,_,A0,c0,qs0,g1,_,_,g4,g5⟩:=h0.m;injection e with e
    injection f with f
    simp at e f;obtain ⟨rfl,rfl⟩:=e;obtain ⟨rfl,rfl⟩:=f;injection h1 with h1 hn hc
    injection g1 with g1 gn gc
    subst h1 g1;refine ⟨_,_,rfl,byt_across hb hz hv,_,_,qs,by rw [hn,hc],h2,h3,lies_across (s:=2) (by decide) g4 h4 (n0:=k.pn) (n:=j.pn) (by rw [pc_len,g5.1,gn]; omega) (by rw [pc_len,h5.1,hn]; omega) l.p hz hk,h5.1,fun i q p hq hp => ⟨(h5.2 i q p hq hp).1,byt_across (h5.2 i q p hq hp).2 hz hv⟩⟩
  · obtain ⟨e1,e2,e3,e4⟩:=h.d
    obtain ⟨f1,_,_,f4⟩:=h0.d;exact ⟨e1,e2,e3,lies_across (s:=1) (by decide) f4 e4 (n0:=k.dn) (n:=j.dn) (by rw [ints_len,f1,Nat.mul_one]) (by rw [ints_len,e1,Nat.mul_one]) l.d hz hk⟩
  · obtain ⟨e1,e2,e3,e4⟩:=h.r
    obtain ⟨f1,_,_,f4⟩:=h0.r;exact ⟨e1,e2,e3,lies_across (B:=B) (s:=1) (by decide) f4 e4 (n0:=k.rn) (n:=j.rn) (by rw [ints_len,f1,Nat.mul_one]) (by rw [ints_len,e1,Nat.mul_one]) (.inl l.r) hz hk⟩
  · exact rws_across (s:=3) (fun _ => rfl) (by decide) h0.f h.f (.inl l.f) hz hk
  · have hh:=h.dict
    have hl:=hh.len;have gl:=h0.dict.len;obtain ⟨A,c,e1,e2,e3,_⟩:=hh
    exact ⟨A,c,e1,e2,e3,by
      injection e1 with e1 _ _
      subst e1
      exact lies_across (B:=B) (s:=3) (by decide) h0.dict.lies h.dict.lies (n0:=k.wn) (n:=j.wn) (by rw [wds_len,gl]) (by rw [wds_len,hl]) (.inl l.w) hz hk⟩
  · exact rws_across (s:=6) (fun _ => rfl) (by decide) h0.e h.e l.e hz hk
  · exact rws_across (s:=4) (fun _ => rfl) (by decide) h0.h h.h (.inl l.h) hz hk
structure Ex (X : Nat → Prop) (w V : World) : Prop where
  size : w.heap.size ≤ V.heap.size
  same : ∀ g,g < w.heap.size → ¬ X g → V.heap[g]? = w.heap[g]?
theorem Ex.refl (X : Nat → Prop) (w : World) : Ex X w w:=⟨Nat.le_refl _,fun _ _ _ => rfl⟩
theorem Ex.below {X : Nat → Prop} {w u V : World} (h : Ex X w u) (b : Below u.heap.size u V) : Ex X w V:=⟨Nat.le_trans h.size b.size,fun g hg hx => (b.block g (Nat.lt_of_lt_of_le hg h.size)).trans (h.same g hg hx)⟩
theorem Ex.row {X : Nat → Prop} {w u : World} (h : Ex X w u) {b : Nat} (hb : X b) (cs : Array Value) : Ex X w (u.setRow b cs):=⟨by rw [size_setRow]; exact h.size,fun g hg hx => by
  have e : g ≠ b:=fun e => hx (e ▸ hb)
  rw [setRow_other u b g cs (by omega)]
  exact h.same g hg hx⟩
theorem Ex.cell {X : Nat → Prop} {w u : World} (h : Ex X w u) {b i : Nat} (hb : X b) (v : Value) : Ex X w (u.setCell ⟨b,i,none⟩ v):=⟨by simp [World.setCell]; exact h.size,fun g hg hx => by
  have e : g ≠ b:=fun e => hx (e ▸ hb)
  rw [Below.heap_setCell u ⟨b,i,none⟩ v g e]
  exact h.same g hg hx⟩
theorem IsVm.ex {w u V : World} {k j : VmK} {L0 L : VmL} {B : Nat} {X : Nat → Prop} (h0 : IsVm w k L0) (h : IsVm u j L) (l : MLoc B j k) (x : Ex X u V) (hX : ∀ g,g < u.heap.size → X g → w.heap.size ≤ g ∧ g < B ∧ NoU8 u g) : IsVm V j L :=
  h0.across h l x.size (fun g hg hl => x.same g hl fun hx => by have:=hX g hl hx; omega) fun g hl => by
    by_cases hx : X g
    · exact .inr (hX g hl hx).2.2
    · exact .inl (x.same g hl hx)
theorem RowN.keep {b : Nat} {w w' : World} {A : Option Addr} {n c : Nat} {l : List Int} (h : RowN b w A n c l) (k : Below w.heap.size w w') : RowN b w' A n c l:=⟨h.1.keep k,h.2⟩
theorem RowN.at_ {B : Nat} {u u' : World} {A : Option Addr} {n c : Nat} {l : List Int} (h : RowN B u A n c l) (hz : u.heap.size ≤ u'.heap.size) (hk : ∀ g,B ≤ g → u'.heap[g]? = u.heap[g]?) : RowN B u' A n c l:=by
  obtain ⟨⟨e1,e2,e3,h4⟩,h5⟩:=h;refine ⟨⟨e1,e2,e3,?_⟩,h5⟩
  rcases h4 with h4 | ⟨g,o,e,hg,hc⟩
  · exact .inl h4
  · refine .inr ⟨g,o,e,Nat.lt_of_lt_of_le hg hz,fun j v hv => ?_⟩
    have:=hc j v hv;unfold World.cell? at this ⊢;rw [hk g (h5 _ e)];exact this
theorem RowN.row_set {B b : Nat} {u : World} {A : Option Addr} {n c : Nat} {l : List Int} (h : RowN B u A n c l) (hb : b < B) (cs : Array Value) : RowN B (u.setRow b cs) A n c l:=h.at_ (by rw [size_setRow]; exact Nat.le_refl _) fun g hg => setRow_other u b g cs (by omega)
theorem rowN_one (w : World) (x : Int) : RowN w.heap.size (w.alloc (.cells #[.int .i64 x] 3)) (some ⟨w.heap.size,0,none⟩) 1 1 [x]:=⟨one_row w x,fun q e => by cases e; exact Nat.le_refl _⟩
def ActOut (E : Eff) (k : VmK) (w : World) (e : Ending) (w' : World) : Prop:=∃ j B m d,e = .returned (.tuple #[vmV j,.slice B m d,.int .i64 E.c]) ∧ (E.c = 0 → IsVm w' j E.L ∧ Sc j E.K ∧ MLoc w.heap.size j k ∧ RowN w.heap.size w' B m d E.o) ∧ Below w.heap.size w w'
def TurnOut (E : Eff) (k : VmK) (w : World) (e : Ending) (w' : World) : Prop:=∃ j,e = .returned (.tuple #[vmV j,.int .i64 E.c]) ∧ (E.c = 0 → IsVm w' j E.L ∧ Sc j E.K ∧ MLoc w.heap.size j k) ∧ Below w.heap.size w w'
def DeedOut (E : Eff) (k : VmK) (w : World) (e : Ending) (w' : World) : Prop:=∃ j,e = .returned (.tuple #[vmV j,.int .i64 E.c]) ∧ IsVm w' j E.L ∧ Sc j E.K ∧ MLoc w.heap.size j k ∧ Below w.heap.size w w'
abbrev Ent (g : FuncId) : Prop:=∀ args w,(callFunc g args).run Tryz.prog w = .ok (.enter g args) w
structure Kp (W w : World) : Prop where
  size : W.heap.size ≤ w.heap.size
  cell : ∀ {p : Addr},p.block < W.heap.size → w.cell? p = W.cell? p
theorem kp_of {W w : World} (b : Below W.heap.size W w) : Kp W w:=⟨b.size,fun h => b.cell h⟩
theorem Kp.trans {W w w' : World} (a : Kp W w) (b : Kp w w') : Kp W w':=⟨Nat.le_trans a.size b.size,fun h => (b.cell (Nat.lt_of_lt_of_le h a.size)).trans (a.cell h)⟩
theorem kp_then {W w w' : World} (a : Kp W w) (b : Below w.heap.size w w') : Kp W w':=a.trans (kp_of b)
theorem kp_after {W w w' : World} (a : Below W.heap.size W w) (b : Kp w w') : Kp W w':=(kp_of a).trans b
def IsDeed (W : World) (v : Value) (F : VmK → VmL → Eff) : Prop:=∃ g cs,v = .func (.func g) #[] cs ∧ Ent g ∧ ∀ w k L,Kp W w → Ok k L → IsVm w k L → Calls Tryz.prog g (#[vmV k] ++ cs) w (DeedOut (F k L) k w)
structure Takes (w : World) (t : Nat) (A : Option Addr) (c : Nat) (x : List Int) : Prop where
  row : Row w A t c x
  len : x.length = t
  cells : ∀ y ∈ x,cellR y
theorem Takes.keep {w w' : World} {t : Nat} {A : Option Addr} {c : Nat} {x : List Int} (h : Takes w t A c x) (b : Below w.heap.size w w') : Takes w' t A c x:=⟨h.row.keep b,h.len,h.cells⟩
abbrev Fn3:=VmK → VmL → List Int → Eff
def IsAct (W : World) (v : Value) (t : Nat) (f : Fn3) : Prop:=∃ g cs,v = .func (.func g) #[] cs ∧ Ent g ∧ ∀ w k L A c x,Kp W w → Ok k L → IsVm w k L → Takes w t A c x → Calls Tryz.prog g (#[vmV k,.slice A t c] ++ cs) w (ActOut (f k L x) k w)
def IsTurn (W : World) (v : Value) (t : Nat) (f : Fn3) : Prop:=∃ g cs,v = .func (.func g) #[] cs ∧ Ent g ∧ ∀ w k L A c x,Kp W w → Ok k L → IsVm w k L → Takes w t A c x → Calls Tryz.prog g (#[vmV k,.slice A t c] ++ cs) w (TurnOut (f k L x) k w)
def CellOut (o : List Int) (C : Int) (w : World) (e : Ending) (w' : World) : Prop:=∃ B m d,e = .returned (.tuple #[.slice B m d,.int .i64 C]) ∧ (C = 0 → RowN w.heap.size w' B m d o) ∧ Below w.heap.size w w'
def IsReck (W : World) (v : Value) (t : Nat) (o : List Int → List Int) (C : List Int → Int) : Prop:=∃ g cs,v = .func (.func g) #[] cs ∧ Ent g ∧ ∀ w A c x,Kp W w → Takes w t A c x → Calls Tryz.prog g (#[.slice A t c] ++ cs) w (CellOut (o x) (C x) w)
structure MemIn (w : World) (A P : Option Addr) (n c K d : Nat) (m : PM) : Prop where
  is : IsMem w (.agg #[.slice A n c,.slice P K d]) m
  n1 : 2048 ≤ n
  n2 : n ≤ 8192
  k1 : K ≤ 900
theorem MemIn.keep {w w' : World} {A P : Option Addr} {n c K d : Nat} {m : PM} (h : MemIn w A P n c K d m) (b : Below w.heap.size w w') : MemIn w' A P n c K d m:=⟨h.is.keep b,h.n1,h.n2,h.k1⟩
def MemOut (P0 : Option Addr) (K0 : Nat) (m : PM) (C : Int) (w : World) (e : Ending) (w' : World) : Prop:=∃ A n c P K d,e = .returned (.tuple #[.agg #[.slice A n c,.slice P K d],.int .i64 C]) ∧ (C = 0 → MemP P0 K0 w.heap.size w' (.agg #[.slice A n c,.slice P K d]) m) ∧ Below w.heap.size w w'
def IsStore (W : World) (v : Value) (t : Nat) (f : PM → List Int → PM) (C : PM → List Int → Int) : Prop:=∃ g cs,v = .func (.func g) #[] cs ∧ Ent g ∧ ∀ w A P n c K d m B c2 x,Kp W w → MemIn w A P n c K d m → Takes w t B c2 x → Calls Tryz.prog g (#[.agg #[.slice A n c,.slice P K d],.slice B t c2] ++ cs) w (MemOut P K (f m x) (C m x) w)
def LayOut (P0 : Option Addr) (K0 : Nat) (m : PM) (p C : Int) (w : World) (e : Ending) (w' : World) : Prop:=∃ A n c P K d,e = .returned (.tuple #[.agg #[.slice A n c,.slice P K d],.int .i64 p,.int .i64 C]) ∧ (C = 0 → MemP P0 K0 w.heap.size w' (.agg #[.slice A n c,.slice P K d]) m) ∧ Below w.heap.size w w'
def IsLay (W : World) (v : Value) (t : Nat) (f : PM → Int → List Int → PM) (p C : PM → Int → List Int → Int) : Prop:=∃ g cs,v = .func (.func g) #[] cs ∧ Ent g ∧ ∀ w A P n c K d m h B c2 x,Kp W w → MemIn w A P n c K d m → 1368 ≤ h → h ≤ (n : Int) → Takes w t B c2 x → Calls Tryz.prog g (#[.agg #[.slice A n c,.slice P K d],.int .i64 h,.slice B t c2] ++ cs) w (LayOut P K (f m h x) (p m h x) (C m h x) w)
def IsFetch (W : World) (v : Value) (o : PM → Int → List Int) (C : PM → Int → Int) : Prop:=∃ g cs,v = .func (.func g) #[] cs ∧ Ent g ∧ ∀ w A P n c K d m a,Kp W w → MemIn w A P n c K d m → cellR a → Calls Tryz.prog g (#[.agg #[.slice A n c,.slice P K d],.int .i64 a] ++ cs) w (CellOut (o m a) (C m a) w)
def IsOne (W : World) (v : Value) (o C : PM → Int → Int) : Prop:=∃ g cs,v = .func (.func g) #[] cs ∧ Ent g ∧ ∀ w A P n c K d m a,Kp W w → MemIn w A P n c K d m → cellR a → Calls Tryz.prog g (#[.agg #[.slice A n c,.slice P K d],.int .i64 a] ++ cs) w fun e w' => e = .returned (.tuple #[.int .i64 (o m a),.int .i64 (C m a)]) ∧ Below w.heap.size w w'
def IsTell (W : World) (v : Value) (o : VmK → VmL → Int) : Prop:=∃ g cs,v = .func (.func g) #[] cs ∧ Ent g ∧ ∀ w k L,Kp W w → Ok k L → IsVm w k L → Calls Tryz.prog g (#[vmV k] ++ cs) w fun e w' => e = .returned (.int .i64 (o k L)) ∧ Below w.heap.size w w'
def IsText (W : World) (v : Value) (t : Nat) (s : VmK → VmL → List Int → List UInt8) (C : VmK → VmL → List Int → Int) : Prop:=∃ g cs,v = .func (.func g) #[] cs ∧ Ent g ∧ ∀ w k L A c x,Kp W w → Ok k L → IsVm w k L → Takes w t A c x → Calls Tryz.prog g (#[vmV k,.slice A t c] ++ cs) w fun e w' => e = .returned (.tuple #[.string (strB (s k L x)),.int .i64 (C k L x)]) ∧ (C k L x = 0 → (s k L x).length ≤ 100000) ∧ Below w.heap.size w w'
def IsHold (W : World) (v : Value) (f : Bool → List UInt8 → Int → List UInt8) (C : Bool → List UInt8 → Int → Int) : Prop:=∃ g cs,v = .func (.func g) #[] cs ∧ Ent g ∧ ∀ w A n c o l a,Kp W w → Byt w (.slice A n c) l → l.length ≤ 900 → cellR a → Calls Tryz.prog g (#[.agg #[.slice A n c,.bool o],.int .i64 a] ++ cs) w (PicOut o (f o l a) (C o l a) w)
theorem IsDeed.keep {W W' : World} {v : Value} {F : VmK → VmL → Eff} (h : IsDeed W v F) (z : Kp W W') : IsDeed W' v F:=by
  obtain ⟨g,cs,e,he,hc⟩:=h;refine ⟨g,cs,e,he,?_⟩;intro w
  intros
  exact hc _ _ _ (z.trans (by assumption)) (by assumption) (by assumption)
theorem IsAct.keep {W W' : World} {v : Value} {t : Nat} {f : Fn3} (h : IsAct W v t f) (z : Kp W W') : IsAct W' v t f:=by
  obtain ⟨g,cs,e,he,hc⟩:=h;refine ⟨g,cs,e,he,?_⟩;intro w
  intros
  exact hc _ _ _ _ _ _ (z.trans (by assumption)) (by assumption) (by assumption) (by assumption)
theorem IsTurn.keep {W W' : World} {v : Value} {t : Nat} {f : Fn3} (h : IsTurn W v t f) (z : Kp W W') : IsTurn W' v t f:=by
  obtain ⟨g,cs,e,he,hc⟩:=h;refine ⟨g,cs,e,he,?_⟩;intro w
  intros
  exact hc _ _ _ _ _ _ (z.trans (by assumption)) (by assumption) (by assumption) (by assumption)
theorem IsReck.keep {W W' : World} {v : Value} {t : Nat} {o : List Int → List Int} {C : List Int → Int} (h : IsReck W v t o C) (z : Kp W W') : IsReck W' v t o C:=by
  obtain ⟨g,cs,e,he,hc⟩:=h;refine ⟨g,cs,e,he,?_⟩;intro w
  intros
  exact hc _ _ _ _ (z.trans (by assumption)) (by assumption)
theorem IsStore.keep {W W' : World} {v : Value} {t : Nat} {f : PM → List Int → PM} {C : PM → List Int → Int} (h : IsStore W v t f C) (z : Kp W W') : IsStore W' v t f C:=by
  obtain ⟨g,cs,e,he,hc⟩:=h;refine ⟨g,cs,e,he,?_⟩;intro w
  intros
  exact hc _ _ _ _ _ _ _ _ _ _ _ (z.trans (by assumption)) (by assumption) (by assumption)
theorem IsLay.keep {W W' : World} {v : Value} {t : Nat} {f : PM → Int → List Int → PM} {p C : PM → Int → List Int → Int} (h : IsLay W v t f p C) (z : Kp W W') : IsLay W' v t f p C:=by
  obtain ⟨g,cs,e,he,hc⟩:=h;refine ⟨g,cs,e,he,?_⟩;intro w
  intros
  exact hc _ _ _ _ _ _ _ _ _ _ _ _ (z.trans (by assumption)) (by assumption) (by assumption) (by assumption) (by assumption)
theorem IsFetch.keep {W W' : World} {v : Value} {o : PM → Int → List Int} {C : PM → Int → Int} (h : IsFetch W v o C) (z : Kp W W') : IsFetch W' v o C:=by
  obtain ⟨g,cs,e,he,hc⟩:=h;refine ⟨g,cs,e,he,?_⟩;intro w
  intros
  exact hc _ _ _ _ _ _ _ _ _ (z.trans (by assumption)) (by assumption) (by assumption)
theorem IsOne.keep {W W' : World} {v : Value} {o C : PM → Int → Int} (h : IsOne W v o C) (z : Kp W W') : IsOne W' v o C:=by
  obtain ⟨g,cs,e,he,hc⟩:=h;refine ⟨g,cs,e,he,?_⟩;intro w
  intros
  exact hc _ _ _ _ _ _ _ _ _ (z.trans (by assumption)) (by assumption) (by assumption)
theorem IsTell.keep {W W' : World} {v : Value} {o : VmK → VmL → Int} (h : IsTell W v o) (z : Kp W W') : IsTell W' v o:=by
  obtain ⟨g,cs,e,he,hc⟩:=h;refine ⟨g,cs,e,he,?_⟩;intro w
  intros
  exact hc _ _ _ (z.trans (by assumption)) (by assumption) (by assumption)
theorem IsText.keep {W W' : World} {v : Value} {t : Nat} {s : VmK → VmL → List Int → List UInt8} {C : VmK → VmL → List Int → Int} (h : IsText W v t s C) (z : Kp W W') : IsText W' v t s C:=by
  obtain ⟨g,cs,e,he,hc⟩:=h;refine ⟨g,cs,e,he,?_⟩;intro w
  intros
  exact hc _ _ _ _ _ _ (z.trans (by assumption)) (by assumption) (by assumption) (by assumption)
theorem IsHold.keep {W W' : World} {v : Value} {f : Bool → List UInt8 → Int → List UInt8} {C : Bool → List UInt8 → Int → Int} (h : IsHold W v f C) (z : Kp W W') : IsHold W' v f C:=by
  obtain ⟨g,cs,e,he,hc⟩:=h;refine ⟨g,cs,e,he,?_⟩;intro w
  intros
  exact hc _ _ _ _ _ _ _ (z.trans (by assumption)) (by assumption) (by assumption) (by assumption)
theorem exec_vl {o : Oper} {a : Act} (x : Operand) (ho : o.op = .load 37 x) (b : Nat) (k : VmK) (hx : a.eval x = .pointer (some ⟨b,0,none⟩)) {u : World} (hb : VBox u b k) : (execOp a.eval o).run Tryz.prog u = .ok (.value (vmV k)) u:=by
  have hl:=vm_load hb;unfold execOp;simp only [ho,hx,Instr.loadAt,Instr.sureAddr,Sem.run_bind,Sem.run_pure,Result.andThen_ok,hl]
theorem vrow_fr {w : World} {b b' : Nat} {k : VmK} (h : VBox w b k) (hne : b ≠ b') (cs : Array Value) : VBox (w.setRow b' cs) b k:=by
  unfold VBox at h ⊢;rw [setRow_other w b' b cs (by omega)];exact h
theorem step_vst {ops : Array Oper} {o : Oper} {a : Act} {K : Act → World → Prop} {Q : Exit → Act → World → Prop} {E : Prop} {w : World} (hgd : o.guard = none) (x y : Operand) (ho : o.op = .store 37 x y)
    (b : Nat) (j k : VmK) (hx : a.eval x = .pointer (some ⟨b,0,none⟩)) (hy : a.eval y = vmV k) (hb : VBox w b j) (h : K (a.put o.dst undef) (w.setRow b (vmC k))) :
    if Region.wanted o (yielded ops a.tmps) = true then Oper.wp Tryz.prog o a w K Q else E:=by
  have hw : Region.wanted o (yielded ops a.tmps) = true:=by simp [Region.wanted,hgd]
  rw [if_pos hw];exact wp_store_row 37 x y ho b (vmC k) hx hy _ _ hb vm_info rfl (vm_one k) h
theorem in_two (w : World) (k : VmK) (o : Obj) : Below w.heap.size w ((w.alloc (.cells (vmC k) 37)).alloc o) ∧ VBox ((w.alloc (.cells (vmC k) 37)).alloc o) w.heap.size k:=⟨al_two _ _ _,(vbox_new w k).keep (al_one _ _)⟩
theorem in_two0 (w : World) (o : Obj) : VBox ((w.alloc o).alloc (.cells (vmC vm0) 37)) (w.heap.size + 1) vm0:=by
  have:=vbox_zero (w.alloc o)
  rwa [World.size_alloc] at this
theorem Ok.mem {k : VmK} {L : VmL} {w : World} (o : Ok k L) (h : IsVm w k L) : MemIn w k.mA k.pA k.mn k.mc k.pn k.pc L.m:=⟨h.m,by rw [← h.m.len1]; exact o.m1,by rw [← h.m.len1]; exact o.m2,by rw [← h.m.len2]; exact o.m3⟩
theorem VBox.put_d {w : World} {b : Nat} {k : VmK} (h : VBox w b k) (B : Option Addr) (m d : Nat) : VBox (w.setCell ⟨b,8,none⟩ (.slice B m d)) b { k with dA:=B,dn:=m,dc:=d }:=by
  have h1:=Go.Joins.block_setCell (i:=8) h (.slice B m d);simpa [VBox] using h1
theorem vset_far {w : World} {b b' i : Nat} {k : VmK} {v : Value} (h : VBox w b k) (hne : b ≠ b') : VBox (w.setCell ⟨b',i,none⟩ v) b k:=by
  unfold VBox;rw [Below.heap_setCell _ _ _ _ hne];exact h
theorem res_ctt {fn : Func} {p t u : Tmp} (h : fn.results = #[.cell p 37,.tmp u,.tmp t]) (tmps : Array Value) (w : World) (b : Nat) (k : VmK) (hp : tmps.getD p undef = .pointer (some ⟨b,0,none⟩)) (hb : VBox w b k) :
    (results fn tmps).run Tryz.prog w = .ok (.tuple #[vmV k,tmps.getD u undef,tmps.getD t undef]) w:=by
  have hp' : tmps[p]?.getD undef = .pointer (some ⟨b,0,none⟩):=by simpa using hp
  simp [results,h,hp',asAddr,vm_load hb]
end Go.Proofs.YtcmldhjicjmmgaaGreatDoor
