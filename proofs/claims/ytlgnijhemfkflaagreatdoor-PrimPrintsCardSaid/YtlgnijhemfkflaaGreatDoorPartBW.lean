/- Part 49. -/
import Derived.Test.YtlgnijhemfkflaaGreatDoorPartBT
set_option linter.unusedVariables false
set_option linter.unusedSimpArgs false
set_option maxRecDepth 100000
set_option maxHeartbeats 4000000

namespace Go.Proofs.YtlgnijhemfkflaaGreatDoor
open Go.RowKit


def kq (on : Bool) : VmK:={ stS with qo:=on }
def stX (m : PM) (q o : List UInt8) (d : List Int) : VmL:={ newL 2048 with m:=m,q:=q,o:=o,d:=d }
theorem ok_stX {on : Bool} {m : PM} {q o : List UInt8} {l : List Int} (h1 : m.1.length = 2048) (h2 : m.2.length ≤ 900) (hq : q.length ≤ 900) (ho : o.length ≤ 60000) (hl : l.length ≤ 32) (hr : ∀ x ∈ l,cellR x) : Ok (kq on) (stX m q o l) :=
  ⟨by show 2048 ≤ m.1.length; omega,by show m.1.length ≤ 8192; omega,h2,by show l.length ≤ 400; omega,hr,ho,hq,by show ([] : List Rq).length ≤ 100; decide,by show ([] : List Hn).length ≤ 1000; decide,by show (0 : Int) ≤ 500; decide,by show (500 : Int) ≤ 65536; decide,by show (0 : Int) ≤ 32; decide,by show (32 : Int) ≤ 256; decide,by show (1368 : Int) ≤ 1368; decide,by show (1368 : Int) ≤ (m.1.length : Int); omega,by show (2048 : Int) = (m.1.length : Int); omega⟩
section
variable (on : Bool) (m : PM) (q o : List UInt8)
theorem p84 (lo : List Int) (b : Int) (hl : lo.length ≤ 28) (hc : cellC m.1.length 0 = 0) : doE 84 (kq on) (stX m q o (lo ++ [b,0])) = ⟨0,[],kq on,stX (storeF m 0 b) q o lo⟩:=by
  have h:=do_st 84 (by decide) (by decide) (k:=kq on) (L:=stX m q o (lo ++ [b,0])) lo [b,0] (E:=e84 (kq on) (stX m q o (lo ++ [b,0])) b 0) rfl rfl rfl (by show ((lo.length + 0 : Nat) : Int) ≤ 32; omega);refine h.trans ((if_pos (show cellC m.1.length 0 = 0 from hc)).trans ?_);show (⟨0,[],kq on,{ stX m q o (lo ++ [b,0]) with m:=storeF m 0 b,d:=lo ++ [] }⟩ : Eff) = _;rw [List.append_nil];rfl
theorem p112 (lo : List Int) (hl : lo.length ≤ 28) : doE 112 (kq on) (stX m q o lo) = ⟨0,[],kq true,stX m [] o lo⟩:=by
  have h:=do_st 112 (by decide) (by decide) (k:=kq on) (L:=stX m q o lo) lo [] (E:=e112 (kq on) (stX m q o lo)) rfl (by rw [List.append_nil]; rfl) rfl (by show ((lo.length + 0 : Nat) : Int) ≤ 32; omega);refine h.trans ((if_pos rfl).trans ?_);show (⟨0,[],kq true,{ stX m q o lo with q:=[],d:=lo ++ [] }⟩ : Eff) = _;rw [List.append_nil];rfl
theorem p114 (lo : List Int) (a c : Int) (hl : lo.length ≤ 28) (hc : allC on q a c (fetchF m 0) = 0) : doE 114 (kq on) (stX m q o (lo ++ [a,c])) = ⟨0,[],kq on,stX m (allL on q a c (fetchF m 0)) o (lo ++ [0,0])⟩ :=
  (do_st 114 (by decide) (by decide) (k:=kq on) (L:=stX m q o (lo ++ [a,c])) lo [a,c] (E:=e114 (kq on) (stX m q o (lo ++ [a,c])) a c) rfl rfl rfl (by show ((lo.length + 2 : Nat) : Int) ≤ 32; omega)).trans (if_pos hc)
theorem p27 (a : Int) : doE 27 (kq on) (stX m q o [a,0,0]) = ⟨0,[],kq on,stX m q o [0,0,a]⟩:=by kernel_rfl
theorem p116 (lo : List Int) (a : Int) (hl : lo.length ≤ 28) (hc : signC on q a = 0) : doE 116 (kq on) (stX m q o (lo ++ [a])) = ⟨0,[],kq on,stX m (signL on q a) o lo⟩:=by
  have h:=do_st 116 (by decide) (by decide) (k:=kq on) (L:=stX m q o (lo ++ [a])) lo [a] (E:=e116 (kq on) (stX m q o (lo ++ [a])) a) rfl rfl rfl (by show ((lo.length + 0 : Nat) : Int) ≤ 32; omega);refine h.trans ((if_pos (show signC on q a = 0 from hc)).trans ?_);show (⟨0,[],kq on,{ stX m q o (lo ++ [a]) with q:=signL on q a,d:=lo ++ [] }⟩ : Eff) = _;rw [List.append_nil];rfl
theorem p117 (lo : List Int) (a c : Int) (hl : lo.length ≤ 28) (h0 : m.1.length = 2048) (hc : okB 2048 1912 q.length = true) : doE 117 (kq true) (stX m q o (lo ++ [a,c])) = ⟨0,[],kq false,stX (writeF m 1912 q.reverse) [] o (lo ++ [1912,(q.length : Int)])⟩:=by
  have hq : (endL true q) = q.reverse:=rfl;have h:=do_st 117 (by decide) (by decide) (k:=kq true) (L:=stX m q o (lo ++ [a,c])) lo [a,c] (E:=e117 (kq true) (stX m q o (lo ++ [a,c])) a c) rfl rfl rfl (by show ((lo.length + 2 : Nat) : Int) ≤ 32; omega);have e : (m.1.length : Int) - 136 = 1912:=by rw [h0]; rfl
  refine h.trans ((if_pos (show (if endC true = 0 then codeF (okB m.1.length ((m.1.length : Int) - 136) (endL true q).length) else endC true) = 0 from by rw [if_pos (show endC true = 0 from rfl),e,h0,hq,List.length_reverse,hc]; rfl)).trans ?_);show (⟨0,[],{ kq true with qo:=false },{ stX m q o (lo ++ [a,c]) with m:=writeF m ((m.1.length : Int) - 136) (endL true q),q:=[],d:=lo ++ [(m.1.length : Int) - 136,((endL true q).length : Int)] }⟩ : Eff) = _;rw [e,hq,List.length_reverse];rfl
theorem print_ok (s : List UInt8) (h : o.length + s.length ≤ 500) : printC o s 500 = 0 ∧ printL o s 500 = o ++ s:=by
  unfold printC printL;rw [if_neg (by omega),if_neg (by omega)];exact ⟨rfl,rfl⟩
theorem p109 (lo : List Int) (a n : Int) (t : List UInt8) (hl : lo.length ≤ 28) (hc : okB m.1.length a n = true) (ht : textF m a n = t) (h : o.length + t.length ≤ 500) : doE 109 (kq on) (stX m q o (lo ++ [a,n])) = ⟨0,[],kq on,stX m q (o ++ t) lo⟩:=by
  obtain ⟨h1,h2⟩:=print_ok o t h;have h:=do_st 109 (by decide) (by decide) (k:=kq on) (L:=stX m q o (lo ++ [a,n])) lo [a,n] (E:=e109 (kq on) (stX m q o (lo ++ [a,n])) a n) rfl rfl rfl (by show ((lo.length + 0 : Nat) : Int) ≤ 32; omega);refine h.trans ((if_pos (show (if codeF (okB m.1.length a n) = 0 then printC o (textF m a n) 500 else codeF (okB m.1.length a n)) = 0 from by rw [hc,ht]; exact h1)).trans ?_);show (⟨0,[],kq on,{ stX m q o (lo ++ [a,n]) with o:=printL o (textF m a n) 500,d:=lo ++ [] }⟩ : Eff) = _;rw [ht,h2,List.append_nil];rfl
theorem p107 (lo : List Int) (hl : lo.length ≤ 28) (h : o.length + 1 ≤ 500) : doE 107 (kq on) (stX m q o lo) = ⟨0,[],kq on,stX m q (o ++ [32]) lo⟩:=by
  obtain ⟨h1,h2⟩:=print_ok o [32] h;have h:=do_st 107 (by decide) (by decide) (k:=kq on) (L:=stX m q o lo) lo [] (E:=e107 (kq on) (stX m q o lo)) rfl (by rw [List.append_nil]; rfl) rfl (by show ((lo.length + 0 : Nat) : Int) ≤ 32; omega);refine h.trans ((if_pos (show (if (0 : Int) = 0 then printC o [32] 500 else 0) = 0 from by rw [if_pos rfl]; exact h1)).trans ?_);show (⟨0,[],kq on,{ stX m q o lo with o:=printL o [32] 500,d:=lo ++ [] }⟩ : Eff) = _;rw [h2,List.append_nil];rfl
theorem p110 (lo : List Int) (a : Int) (t : List UInt8) (hl : lo.length ≤ 28) (hc : showC (fetchF m 0) = 0) (ht : showF a (fetchF m 0) ++ [32] = t) (h : o.length + t.length ≤ 500) : doE 110 (kq on) (stX m q o (lo ++ [a])) = ⟨0,[],kq on,stX m q (o ++ t) lo⟩:=by
  obtain ⟨h1,h2⟩:=print_ok o t h;have h:=do_st 110 (by decide) (by decide) (k:=kq on) (L:=stX m q o (lo ++ [a])) lo [a] (E:=e110 (kq on) (stX m q o (lo ++ [a])) a) rfl rfl rfl (by show ((lo.length + 0 : Nat) : Int) ≤ 32; omega);refine h.trans ((if_pos (show (if showC (fetchF m 0) = 0 then printC o (showF a (fetchF m 0) ++ [32]) 500 else showC (fetchF m 0)) = 0 from by rw [hc,ht]; exact h1)).trans ?_);show (⟨0,[],kq on,{ stX m q o (lo ++ [a]) with o:=printL o (showF a (fetchF m 0) ++ [32]) 500,d:=lo ++ [] }⟩ : Eff) = _;rw [ht,h2,List.append_nil];rfl
theorem p111 (lo : List Int) (a : Int) (t : List UInt8) (hl : lo.length ≤ 28) (hc : showC (fetchF m 0) = 0) (ht : ushowF a (fetchF m 0) ++ [32] = t) (h : o.length + t.length ≤ 500) : doE 111 (kq on) (stX m q o (lo ++ [a])) = ⟨0,[],kq on,stX m q (o ++ t) lo⟩:=by
  obtain ⟨h1,h2⟩:=print_ok o t h;have h:=do_st 111 (by decide) (by decide) (k:=kq on) (L:=stX m q o (lo ++ [a])) lo [a] (E:=e111 (kq on) (stX m q o (lo ++ [a])) a) rfl rfl rfl (by show ((lo.length + 0 : Nat) : Int) ≤ 32; omega);refine h.trans ((if_pos (show (if showC (fetchF m 0) = 0 then printC o (ushowF a (fetchF m 0) ++ [32]) 500 else showC (fetchF m 0)) = 0 from by rw [hc,ht]; exact h1)).trans ?_);show (⟨0,[],kq on,{ stX m q o (lo ++ [a]) with o:=printL o (ushowF a (fetchF m 0) ++ [32]) 500,d:=lo ++ [] }⟩ : Eff) = _;rw [ht,h2,List.append_nil];rfl
end
end Go.Proofs.YtlgnijhemfkflaaGreatDoor
