/- Part 19. -/
import Derived.Test.YtcmldhjicjmmgaaGreatDoorXlAP
import Derived.Test.YtcmldhjicjmmgaaGreatDoorXlAQ
import Derived.Test.YtcmldhjicjmmgaaGreatDoorXlAR
set_option linter.unusedVariables false
set_option linter.unusedSimpArgs false
set_option maxRecDepth 100000
set_option maxHeartbeats 4000000

namespace Go.Proofs.YtcmldhjicjmmgaaGreatDoor
open Go.RowKit


structure Eff where
  c : Int
  o : List Int
  K : VmK
  L : VmL
def truthN (b : Bool) : Int:=if b = true then -1 else 0
def memE (k : VmK) (L : VmL) (m : PM) (c : Int) : Eff:=⟨c,[],k,{ L with m:=m }⟩
def hereE (k : VmK) (L : VmL) (m : PM) (p c : Int) : Eff:=⟨c,[],{ k with here:=p },{ L with m:=m }⟩
def printE (k : VmK) (L : VmL) (s : List UInt8) (c : Int) : Eff:=⟨if c = 0 then printC L.o s k.co else c,[],k,printV k L s⟩
def picE (k : VmK) (L : VmL) (q : List UInt8) (on : Bool) (o : List Int) (c : Int) : Eff:=⟨c,o,{ k with qo:=on },{ L with q:=q }⟩
def twoC (n : Nat) (a : Int) : Int:=if cellC n a = 0 then cellC n (wrap64 (a + 8)) else cellC n a
def blanksL (n co : Int) : List UInt8:=List.replicate (min n.toNat (co.toNat + 1)) 32
def bodyC (m : PM) (n : Nat) (a : Int) : Int:=if kindC m n a = 0 then (if 257 ≤ kindV m n a ∧ kindV m n a ≤ 260 then 0 else -31) else kindC m n a
def hasB (L : VmL) (h r : Int) : Bool:=decide (0 ≤ h ∧ h < (L.h.length : Int) ∧ 0 ≤ r ∧ r < 4)
def postC (L : VmL) : Int:=if L.e.length < 16 then 0 else -257
def timerC (k : VmK) (L : VmL) (h r d : Int) : Int:=if hasB L h r = true then (if 1 ≤ d ∧ d < 4294967296 then (if postC L = 0 then (if k.free = 0 ∨ k.next = 4611686018427387904 then -258 else 0) else -257) else -24) else -259
def timerE (k : VmK) (L : VmL) (kind x h r d : Int) : Eff:=⟨timerC k L h r d,[k.next],{ k with next:=wrap64 (k.next + 1),free:=wrap64 (k.free - 1) },{ L with e:=L.e ++ [⟨kind,x,h,r,d,k.next⟩] }⟩
def stateP (b s : Int) : Int:=wrap64 (wrap64 (b + 16) + wrap64 (8 * s))
def stateC (m : PM) (b s p : Int) : Int:=if cellC m.1.length (wrap64 (b + 8)) = 0 then (if 0 ≤ s ∧ s < fetchF m (wrap64 (b + 8)) then cellC m.1.length p else -24) else cellC m.1.length (wrap64 (b + 8))
def twoE (s : List UInt8) (k : VmK) (L : VmL) (a b : Int) : Eff:=⟨divC s b,[(twoF s a b).getD 0],k,L⟩
def oneE (s : List UInt8) (k : VmK) (L : VmL) (a : Int) : Eff:=⟨0,[(oneF s a).getD 0],k,L⟩
def e73 (k : VmK) (L : VmL) (a : Int) (b : Int) : Eff:=⟨dc b,[dr a b,dq a b],k,L⟩
def e74 (k : VmK) (L : VmL) (a : Int) (b : Int) (c : Int) : Eff:=⟨fc (umLo a b) (smHi a b) c,[fq (umLo a b) (smHi a b) c],k,L⟩
def e75 (k : VmK) (L : VmL) (a : Int) (b : Int) (c : Int) : Eff:=⟨fc (umLo a b) (smHi a b) c,[fr (umLo a b) (smHi a b) c,fq (umLo a b) (smHi a b) c],k,L⟩
def e76 (k : VmK) (L : VmL) (a : Int) (b : Int) : Eff:=⟨0,[umLo a b,umHi a b],k,L⟩
def e77 (k : VmK) (L : VmL) (a : Int) (b : Int) (c : Int) : Eff:=⟨uc b c,[ur a b c,uq a b c],k,L⟩
def e78 (k : VmK) (L : VmL) (a : Int) (b : Int) : Eff:=⟨0,[umLo a b,smHi a b],k,L⟩
def e79 (k : VmK) (L : VmL) (a : Int) (b : Int) (c : Int) : Eff:=⟨sc a b c,[sr a b c,sq a b c],k,L⟩
def e80 (k : VmK) (L : VmL) (a : Int) (b : Int) (c : Int) : Eff:=⟨fc a b c,[fr a b c,fq a b c],k,L⟩
def e81 (k : VmK) (L : VmL) (a : Int) : Eff:=⟨0,[a,truthN (decide (a < 0))],k,L⟩
def e82 (k : VmK) (L : VmL) (a : Int) (b : Int) (c : Int) : Eff:=⟨0,[truthN (withinB a b c)],k,L⟩
def e83 (k : VmK) (L : VmL) (a : Int) : Eff:=⟨cellC L.m.1.length a,[fetchF L.m a],k,L⟩
def e84 (k : VmK) (L : VmL) (a : Int) (b : Int) : Eff:=memE k L (storeF L.m b a) (cellC L.m.1.length b)
def e85 (k : VmK) (L : VmL) (a : Int) (b : Int) : Eff:=memE k L (storeF L.m b (wrap64 (fetchF L.m b + a))) (cellC L.m.1.length b)
def e86 (k : VmK) (L : VmL) (a : Int) : Eff:=⟨codeF (okB L.m.1.length a 1),[byteF L.m a],k,L⟩
def e87 (k : VmK) (L : VmL) (a : Int) (b : Int) : Eff:=memE k L (writeF L.m b [lowB a]) (codeF (okB L.m.1.length b 1))
def e88 (k : VmK) (L : VmL) (a : Int) : Eff:=⟨twoC L.m.1.length a,[fetchF L.m (wrap64 (a + 8)),fetchF L.m a],k,L⟩
def e89 (k : VmK) (L : VmL) (a : Int) (b : Int) (c : Int) : Eff:=memE k L (storeF (storeF L.m c b) (wrap64 (c + 8)) a) (twoC L.m.1.length c)
def e90 (k : VmK) (L : VmL) (a : Int) (b : Int) (c : Int) : Eff:=memE k L (fillF L.m a b c) (codeF (okB L.m.1.length a b))
def e91 (k : VmK) (L : VmL) (a : Int) (b : Int) (c : Int) : Eff:=memE k L (moveF L.m a b c) (moveC L.m a b c)
def e92 (k : VmK) (L : VmL) (a : Int) : Eff:=⟨codeF (okB L.m.1.length a 1),[wrap64 (a + 1),byteF L.m a],k,L⟩
def e93 (k : VmK) (L : VmL) : Eff:=⟨0,[k.here],k,L⟩
def e94 (k : VmK) (L : VmL) (a : Int) : Eff:=hereE k L L.m (movP L.m.1.length 1368 k.here a) (movC L.m.1.length 1368 k.here a)
def e95 (k : VmK) (L : VmL) (a : Int) : Eff:=hereE k L (comM L.m k.here a) (comP L.m.1.length k.here) (comC L.m.1.length k.here)
def e96 (k : VmK) (L : VmL) (a : Int) : Eff:=hereE k L (layM L.m k.here [lowB a]) (layP L.m.1.length k.here 1) (layC L.m.1.length k.here 1)
def e97 (k : VmK) (L : VmL) : Eff:=hereE k L (layM L.m k.here (upB k.here)) (layP L.m.1.length k.here (misN k.here)) (layC L.m.1.length k.here (misN k.here))
def e98 (k : VmK) (L : VmL) : Eff:=⟨0,[0],k,L⟩
def e99 (k : VmK) (L : VmL) : Eff:=⟨0,[8],k,L⟩
def e100 (k : VmK) (L : VmL) : Eff:=⟨0,[-1],k,L⟩
def e101 (k : VmK) (L : VmL) : Eff:=⟨0,[0],k,L⟩
def e102 (k : VmK) (L : VmL) : Eff:=⟨0,[32],k,L⟩
def e103 (k : VmK) (L : VmL) : Eff:=memE k L (storeF L.m 0 10) (cellC L.m.1.length 0)
def e104 (k : VmK) (L : VmL) : Eff:=memE k L (storeF L.m 0 16) (cellC L.m.1.length 0)
def e105 (k : VmK) (L : VmL) (a : Int) : Eff:=printE k L [lowB a] 0
def e106 (k : VmK) (L : VmL) : Eff:=printE k L [10] 0
def e107 (k : VmK) (L : VmL) : Eff:=printE k L [32] 0
def e108 (k : VmK) (L : VmL) (a : Int) : Eff:=printE k L (blanksL a k.co) 0
def e109 (k : VmK) (L : VmL) (a : Int) (b : Int) : Eff:=printE k L (textF L.m a b) (codeF (okB L.m.1.length a b))
def e110 (k : VmK) (L : VmL) (a : Int) : Eff:=printE k L (showF a (fetchF L.m 0) ++ [32]) (showC (fetchF L.m 0))
def e111 (k : VmK) (L : VmL) (a : Int) : Eff:=printE k L (ushowF a (fetchF L.m 0) ++ [32]) (showC (fetchF L.m 0))
def e112 (k : VmK) (L : VmL) : Eff:=picE k L [] true [] 0
def e113 (k : VmK) (L : VmL) (a : Int) (b : Int) : Eff:=picE k L (digL k.qo L.q a b (fetchF L.m 0)) k.qo [digLo k.qo L.q a b (fetchF L.m 0),digHi k.qo L.q a b (fetchF L.m 0)] (digC k.qo L.q (fetchF L.m 0))
def e114 (k : VmK) (L : VmL) (a : Int) (b : Int) : Eff:=picE k L (allL k.qo L.q a b (fetchF L.m 0)) k.qo [0,0] (allC k.qo L.q a b (fetchF L.m 0))
def e115 (k : VmK) (L : VmL) (a : Int) : Eff:=picE k L (holdL k.qo L.q a) k.qo [] (holdC k.qo L.q)
def e116 (k : VmK) (L : VmL) (a : Int) : Eff:=picE k L (signL k.qo L.q a) k.qo [] (signC k.qo L.q a)
def e117 (k : VmK) (L : VmL) (a : Int) (b : Int) : Eff:=⟨if endC k.qo = 0 then codeF (okB L.m.1.length ((L.m.1.length : Int) - 136) (endL k.qo L.q).length) else endC k.qo,[(L.m.1.length : Int) - 136,((endL k.qo L.q).length : Int)],{ k with qo:=false },{ L with m:=writeF L.m ((L.m.1.length : Int) - 136) (endL k.qo L.q),q:=[] }⟩
def e118 (k : VmK) (L : VmL) (a : Int) : Eff:=⟨bodyC L.m L.m.1.length a,[wrap64 (a + 16)],k,L⟩
def e119 (k : VmK) (L : VmL) : Eff:=⟨-1,[],k,L⟩
def e120 (k : VmK) (L : VmL) (a : Int) (b : Int) (c : Int) : Eff:=⟨if hasB L b c = true then postC L else -259,[],k,{ L with e:=L.e ++ [⟨1,a,b,c,0,0⟩] }⟩
def e121 (k : VmK) (L : VmL) (a : Int) (b : Int) (c : Int) (d : Int) : Eff:=timerE k L 2 a b c d
def e122 (k : VmK) (L : VmL) (a : Int) (b : Int) (c : Int) (d : Int) : Eff:=timerE k L 3 a b c d
def e123 (k : VmK) (L : VmL) (a : Int) : Eff:=⟨postC L,[],k,{ L with e:=L.e ++ [⟨4,0,0,0,0,a⟩] }⟩
def e124 (k : VmK) (L : VmL) : Eff:=⟨0,[k.arg],k,L⟩
def e125 (k : VmK) (L : VmL) : Eff:=⟨0,[k.self],k,L⟩
def e126 (k : VmK) (L : VmL) : Eff:=⟨0,[k.now],k,L⟩
def e127 (k : VmK) (L : VmL) (a : Int) (b : Int) : Eff:=memE k L (storeF L.m b a) (stateC L.m b a b)
def e128 (k : VmK) (L : VmL) (a : Int) (b : Int) (c : Int) : Eff:=memE k L (storeF L.m (stateP c b) a) (stateC L.m c b (stateP c b))
def e129 (k : VmK) (L : VmL) (a : Int) : Eff:=⟨cellC L.m.1.length a,[fetchF L.m a],k,L⟩
def nmP (n : Nat) : List UInt8:=primL.getD n []
def effs : List (VmK → VmL → List Int → Eff):=[fun k L x => e73 k L (x.getD 0 0) (x.getD 1 0),fun k L x => e74 k L (x.getD 0 0) (x.getD 1 0) (x.getD 2 0),fun k L x => e75 k L (x.getD 0 0) (x.getD 1 0) (x.getD 2 0),fun k L x => e76 k L (x.getD 0 0) (x.getD 1 0),fun k L x => e77 k L (x.getD 0 0) (x.getD 1 0) (x.getD 2 0),fun k L x => e78 k L (x.getD 0 0) (x.getD 1 0),fun k L x => e79 k L (x.getD 0 0) (x.getD 1 0) (x.getD 2 0),fun k L x => e80 k L (x.getD 0 0) (x.getD 1 0) (x.getD 2 0),fun k L x => e81 k L (x.getD 0 0),fun k L x => e82 k L (x.getD 0 0) (x.getD 1 0) (x.getD 2 0),fun k L x => e83 k L (x.getD 0 0),fun k L x => e84 k L (x.getD 0 0) (x.getD 1 0),fun k L x => e85 k L (x.getD 0 0) (x.getD 1 0),fun k L x => e86 k L (x.getD 0 0),fun k L x => e87 k L (x.getD 0 0) (x.getD 1 0),fun k L x => e88 k L (x.getD 0 0),fun k L x => e89 k L (x.getD 0 0) (x.getD 1 0) (x.getD 2 0),fun k L x => e90 k L (x.getD 0 0) (x.getD 1 0) (x.getD 2 0),fun k L x => e91 k L (x.getD 0 0) (x.getD 1 0) (x.getD 2 0),fun k L x => e92 k L (x.getD 0 0),fun k L x => e93 k L,fun k L x => e94 k L (x.getD 0 0),fun k L x => e95 k L (x.getD 0 0),fun k L x => e96 k L (x.getD 0 0),fun k L x => e97 k L,fun k L x => e98 k L,fun k L x => e99 k L,fun k L x => e100 k L,fun k L x => e101 k L,fun k L x => e102 k L,fun k L x => e103 k L,fun k L x => e104 k L,fun k L x => e105 k L (x.getD 0 0),fun k L x => e106 k L,fun k L x => e107 k L,fun k L x => e108 k L (x.getD 0 0),fun k L x => e109 k L (x.getD 0 0) (x.getD 1 0),fun k L x => e110 k L (x.getD 0 0),fun k L x => e111 k L (x.getD 0 0),fun k L x => e112 k L,fun k L x => e113 k L (x.getD 0 0) (x.getD 1 0),fun k L x => e114 k L (x.getD 0 0) (x.getD 1 0),fun k L x => e115 k L (x.getD 0 0),fun k L x => e116 k L (x.getD 0 0),fun k L x => e117 k L (x.getD 0 0) (x.getD 1 0),fun k L x => e118 k L (x.getD 0 0),fun k L x => e119 k L,fun k L x => e120 k L (x.getD 0 0) (x.getD 1 0) (x.getD 2 0),fun k L x => e121 k L (x.getD 0 0) (x.getD 1 0) (x.getD 2 0) (x.getD 3 0),fun k L x => e122 k L (x.getD 0 0) (x.getD 1 0) (x.getD 2 0) (x.getD 3 0),fun k L x => e123 k L (x.getD 0 0),fun k L x => e124 k L,fun k L x => e125 k L,fun k L x => e126 k L,fun k L x => e127 k L (x.getD 0 0) (x.getD 1 0),fun k L x => e128 k L (x.getD 0 0) (x.getD 1 0) (x.getD 2 0),fun k L x => e129 k L (x.getD 0 0)]
def effF (n : Nat) (k : VmK) (L : VmL) (x : List Int) : Eff:=if n < 59 then twoE (nmP n) k L (x.getD 0 0) (x.getD 1 0) else if n < 73 then oneE (nmP n) k L (x.getD 0 0) else (effs.getD (n - 73) fun k L _ => ⟨0,[],k,L⟩) k L x
def takesL : List Nat:=[2,3,3,2,3,2,3,3,1,3,1,2,2,1,2,1,3,3,3,1,0,1,1,1,0,0,0,0,0,0,0,0,1,0,0,1,2,1,1,0,2,2,1,1,2,1,0,3,4,4,1,0,0,0,2,3,1]
def takesF (n : Nat) : Nat:=if n < 59 then 2 else if n < 73 then 1 else takesL.getD (n - 73) 0
def deedE (t : Nat) (f : VmK → VmL → List Int → Eff) (k : VmK) (L : VmL) : Eff :=
  if L.d.length < t then ⟨-4,[],k,L⟩
  else if (f k L (L.d.drop (L.d.length - t))).c = 0 then
    (if k.cd < ((L.d.length - t + (f k L (L.d.drop (L.d.length - t))).o.length : Nat) : Int) then ⟨-3,[],k,L⟩
     else ⟨0,[],(f k L (L.d.drop (L.d.length - t))).K,{ (f k L (L.d.drop (L.d.length - t))).L with d:=L.d.take (L.d.length - t) ++ (f k L (L.d.drop (L.d.length - t))).o }⟩)
  else ⟨(f k L (L.d.drop (L.d.length - t))).c,[],k,L⟩
def shufE (s : List UInt8) (k : VmK) (L : VmL) : Eff:=⟨codeR (resF (kindF s) L.d) k.cd,[],k,{ L with d:=listR (resF (kindF s) L.d) L.d k.cd }⟩
def doE (n : Int) (k : VmK) (L : VmL) : Eff :=
  if 23 ≤ n ∧ n ≤ 129 then (if n ≤ 38 then shufE (nmP n.toNat) k L else deedE (takesF n.toNat) (effF n.toNat) k L) else ⟨-24,[],k,L⟩
end Go.Proofs.YtcmldhjicjmmgaaGreatDoor
