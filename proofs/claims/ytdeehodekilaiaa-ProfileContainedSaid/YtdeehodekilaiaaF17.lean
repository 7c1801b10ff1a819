/- Law: indexes. -/
import Derived.Test.YtdeehodekilaiaaF16
import Derived.Test.YtdeehodekilaiaaG1
set_option linter.unusedSimpArgs false
set_option linter.unusedVariables false
namespace Go.Proofs.Ytdeehodekilaiaa
open Go.RowKit
set_option maxRecDepth 100000

end Go.Proofs.Ytdeehodekilaiaa
