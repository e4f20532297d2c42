/- The contracts of package lex, all of them. -/
import Derived.Test.YtakeaocmiblbeaaLexCodeD
import Derived.Test.YtakeaocmiblbeaaLexCodeE
namespace Go.Proofs.Ytakeaocmiblbeaa
end Go.Proofs.Ytakeaocmiblbeaa
