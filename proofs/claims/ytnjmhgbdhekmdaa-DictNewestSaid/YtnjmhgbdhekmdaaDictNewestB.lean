/- DictNewest, joined. -/
import Derived.Test.YtnjmhgbdhekmdaaDictNewHid
import Derived.Test.YtnjmhgbdhekmdaaDictNewLike
import Derived.Test.YtnjmhgbdhekmdaaDictNewOther
namespace Go.Proofs.Ytnjmhgbdhekmdaa
open Go.RowKit
set_option linter.unusedVariables false
set_option linter.unusedSimpArgs false

theorem dnewest_any (A : Option Addr) (n c : Nat) (l : List Wr) (nm : List UInt8) (xt fl : Int) (ot : List UInt8) (w : World) (h : Wds w (.slice A n c) l) :
    Calls Try.prog 5 #[.agg #[.slice A n c, .string (strB nm), .int .i64 xt, .int .i64 fl, .string (strB ot)]] w fun e w' => e = .returned (.bool true) ∧ Below w.heap.size w w' := by
  cases f1 : dFew l 60 with
  | false => exact dnew_1 A n c l nm xt fl ot w h f1
  | true =>
    cases hr : dRight l with
    | false => exact dnew_2 A n c l nm xt fl ot w h f1 hr
    | true =>
      by_cases h60 : (60 : Int) < (nm.length : Int)
      · exact dnew_3 A n c l nm xt fl ot w h f1 hr h60
      · have h60 : decide ((60 : Int) < (nm.length : Int)) = false := by simpa using h60
        by_cases o60 : (60 : Int) < (ot.length : Int)
        · exact dnew_4 A n c l nm xt fl ot w h f1 hr h60 o60
        · have o60 : decide ((60 : Int) < (ot.length : Int)) = false := by simpa using o60
          by_cases hC : addC l nm fl 1000 = 0
          · cases hd : hidB fl with
            | true => exact dnew_Hid A n c l nm xt fl ot w h f1 hr h60 o60 hC hd
            | false =>
              cases hal : alikeF nm ot with
              | true => exact dnew_Like A n c l nm xt fl ot w h f1 hr h60 o60 hC hd hal
              | false => exact dnew_Other A n c l nm xt fl ot w h f1 hr h60 o60 hC hd hal
          · exact dnew_5 A n c l nm xt fl ot w h f1 hr h60 o60 _ rfl hC
end Go.Proofs.Ytnjmhgbdhekmdaa
