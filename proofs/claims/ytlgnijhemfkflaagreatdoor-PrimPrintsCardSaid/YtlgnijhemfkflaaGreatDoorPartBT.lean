/- Part 46. -/
import Derived.Test.YtlgnijhemfkflaaGreatDoorPartBS
set_option linter.unusedVariables false
set_option linter.unusedSimpArgs false
set_option maxRecDepth 100000
set_option maxHeartbeats 4000000

namespace Go.Proofs.YtlgnijhemfkflaaGreatDoor
open Go.RowKit


def stM (m : PM) (l : List Int) : VmL:={ newL 2048 with m:=m,d:=l }
theorem ok_stM {m : PM} {l : List Int} (h1 : m.1.length = 2048) (h2 : m.2.length ≤ 900) (hl : l.length ≤ 32) (hr : ∀ x ∈ l,cellR x) : Ok stS (stM m l) :=
  ⟨by show 2048 ≤ m.1.length; omega,by show m.1.length ≤ 8192; omega,h2,by show l.length ≤ 400; omega,hr,by show ([] : List UInt8).length ≤ 60000; decide,by show ([] : List UInt8).length ≤ 900; decide,by show ([] : List Rq).length ≤ 100; decide,by show ([] : List Hn).length ≤ 1000; decide,by decide,by decide,by decide,by decide,by decide,by show (1368 : Int) ≤ (m.1.length : Int); omega,by show (2048 : Int) = (m.1.length : Int); omega⟩
theorem run_cons (n : Nat) {ns : List Nat} {k K : VmK} {L M : VmL} {o : List Int} (h : doE (n : Int) k L = ⟨0,o,K,M⟩) : runE (n :: ns) k L = runE ns K M:=by
  show (if (doE (n : Int) k L).c = 0 then runE ns (doE (n : Int) k L).K (doE (n : Int) k L).L else (false,k,L)) = _;rw [h];rfl
theorem run_stop (n : Nat) {ns : List Nat} {k : VmK} {L : VmL} (h : ¬ (doE (n : Int) k L).c = 0) : runE (n :: ns) k L = (false,k,L):=by
  show (if (doE (n : Int) k L).c = 0 then runE ns (doE (n : Int) k L).K (doE (n : Int) k L).L else (false,k,L)) = _;rw [if_neg h]
theorem ok_cons {n : Nat} {ns : List Nat} {k K : VmK} {L M : VmL} {o : List Int} (h0 : Ok k L) (h : doE (n : Int) k L = ⟨0,o,K,M⟩) (h1 : OkRun ns K M) : OkRun (n :: ns) k L:=by
  refine ⟨h0,fun _ => ?_⟩;rw [h];exact h1
theorem w84 (m : PM) (lo : List Int) (n a : Int) (hl : lo.length ≤ 28) (hc : cellC m.1.length a = 0) : doE 84 stS (stM m (lo ++ [n,a])) = ⟨0,[],stS,stM (storeF m a n) lo⟩:=by
  have h:=do_st 84 (by decide) (by decide) (k:=stS) (L:=stM m (lo ++ [n,a])) lo [n,a] (E:=e84 stS (stM m (lo ++ [n,a])) n a) rfl rfl rfl (by show ((lo.length + 0 : Nat) : Int) ≤ 32; omega);refine h.trans ((if_pos (show cellC m.1.length a = 0 from hc)).trans ?_);show (⟨0,[],stS,{ stM m (lo ++ [n,a]) with m:=storeF m a n,d:=lo ++ [] }⟩ : Eff) = _;rw [List.append_nil];rfl
theorem w83 (m : PM) (lo : List Int) (a : Int) (hl : lo.length ≤ 28) (hc : cellC m.1.length a = 0) : doE 83 stS (stM m (lo ++ [a])) = ⟨0,[],stS,stM m (lo ++ [fetchF m a])⟩:=by
  have h:=do_st 83 (by decide) (by decide) (k:=stS) (L:=stM m (lo ++ [a])) lo [a] (E:=e83 stS (stM m (lo ++ [a])) a) rfl rfl rfl (by show ((lo.length + 1 : Nat) : Int) ≤ 32; omega);refine h.trans ((if_pos (show cellC m.1.length a = 0 from hc)).trans ?_);rfl
theorem w89 (m : PM) (lo : List Int) (x n a : Int) (hl : lo.length ≤ 28) (hc : cellC m.1.length a = 0) (hc2 : cellC m.1.length (wrap64 (a + 8)) = 0) : doE 89 stS (stM m (lo ++ [x,n,a])) = ⟨0,[],stS,stM (storeF (storeF m a n) (wrap64 (a + 8)) x) lo⟩:=by
  have h:=do_st 89 (by decide) (by decide) (k:=stS) (L:=stM m (lo ++ [x,n,a])) lo [x,n,a] (E:=e89 stS (stM m (lo ++ [x,n,a])) x n a) rfl rfl rfl (by show ((lo.length + 0 : Nat) : Int) ≤ 32; omega);refine h.trans ((if_pos (show twoC m.1.length a = 0 from (if_pos hc).trans hc2)).trans ?_);show (⟨0,[],stS,{ stM m (lo ++ [x,n,a]) with m:=storeF (storeF m a n) (wrap64 (a + 8)) x,d:=lo ++ [] }⟩ : Eff) = _;rw [List.append_nil];rfl
theorem w88 (m : PM) (lo : List Int) (a : Int) (hl : lo.length ≤ 28) (hc : cellC m.1.length a = 0) (hc2 : cellC m.1.length (wrap64 (a + 8)) = 0) : doE 88 stS (stM m (lo ++ [a])) = ⟨0,[],stS,stM m (lo ++ [fetchF m (wrap64 (a + 8)),fetchF m a])⟩:=by
  have h:=do_st 88 (by decide) (by decide) (k:=stS) (L:=stM m (lo ++ [a])) lo [a] (E:=e88 stS (stM m (lo ++ [a])) a) rfl rfl rfl (by show ((lo.length + 2 : Nat) : Int) ≤ 32; omega);refine h.trans ((if_pos (show twoC m.1.length a = 0 from (if_pos hc).trans hc2)).trans ?_);rfl
theorem w87 (m : PM) (lo : List Int) (n a : Int) (hl : lo.length ≤ 28) (hc : okB m.1.length a 1 = true) : doE 87 stS (stM m (lo ++ [n,a])) = ⟨0,[],stS,stM (writeF m a [lowB n]) lo⟩:=by
  have h:=do_st 87 (by decide) (by decide) (k:=stS) (L:=stM m (lo ++ [n,a])) lo [n,a] (E:=e87 stS (stM m (lo ++ [n,a])) n a) rfl rfl rfl (by show ((lo.length + 0 : Nat) : Int) ≤ 32; omega);refine h.trans ((if_pos (show codeF (okB m.1.length a 1) = 0 from by rw [hc]; rfl)).trans ?_);show (⟨0,[],stS,{ stM m (lo ++ [n,a]) with m:=writeF m a [lowB n],d:=lo ++ [] }⟩ : Eff) = _;rw [List.append_nil];rfl
theorem w86 (m : PM) (lo : List Int) (a : Int) (hl : lo.length ≤ 28) (hc : okB m.1.length a 1 = true) : doE 86 stS (stM m (lo ++ [a])) = ⟨0,[],stS,stM m (lo ++ [byteF m a])⟩:=by
  have h:=do_st 86 (by decide) (by decide) (k:=stS) (L:=stM m (lo ++ [a])) lo [a] (E:=e86 stS (stM m (lo ++ [a])) a) rfl rfl rfl (by show ((lo.length + 1 : Nat) : Int) ≤ 32; omega);refine h.trans ((if_pos (show codeF (okB m.1.length a 1) = 0 from by rw [hc]; rfl)).trans ?_);rfl
end Go.Proofs.YtlgnijhemfkflaaGreatDoor
