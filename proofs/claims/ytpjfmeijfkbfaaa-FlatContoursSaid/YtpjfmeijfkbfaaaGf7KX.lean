/- FlatChanges, FlatBuckles and FlatContours: each of the three returns true whatever the input is, and the input reads as it did. No condition. -/
import Derived.Test.YtpjfmeijfkbfaaaP6
import Derived.Test.YtpjfmeijfkbfaaaP9
namespace Go.Proofs.Ytpjfmeijfkbfaaa
theorem flatChanges_holds : Rows.FlatChangesSaid := K.FlatChanges.holds
theorem flatBuckles_holds : Rows.FlatBucklesSaid := K.FlatBuckles.holds
theorem flatContours_holds : Rows.FlatContoursSaid := K.FlatContours.holds
end Go.Proofs.Ytpjfmeijfkbfaaa
