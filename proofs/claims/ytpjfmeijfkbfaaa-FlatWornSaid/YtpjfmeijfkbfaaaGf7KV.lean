/- FlatWorn: it returns true whatever the input is, and the input reads as it did. No condition. -/
import Derived.Test.YtpjfmeijfkbfaaaP7
namespace Go.Proofs.Ytpjfmeijfkbfaaa
theorem flatWorn_holds : Rows.FlatWornSaid := K.FlatWorn.holds
end Go.Proofs.Ytpjfmeijfkbfaaa
