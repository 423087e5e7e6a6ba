/- awake of chapter 5, for every tape. -/
import Derived.Test.YtekodcjnlkfipaaP5
namespace Go.Proofs.G5b
open Go Go.Abs Go.Proofs Go.Proofs.G5
set_option maxRecDepth 100000
end Go.Proofs.G5b
