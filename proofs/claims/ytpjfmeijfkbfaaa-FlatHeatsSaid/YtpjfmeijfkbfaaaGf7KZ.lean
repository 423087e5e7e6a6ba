/- FlatHeats, FlatProfiles and FlatBetween: each of the three returns true whatever the input is, and the input reads as it did. No condition. -/
import Derived.Test.YtpjfmeijfkbfaaaP8
namespace Go.Proofs.Ytpjfmeijfkbfaaa
theorem flatHeats_holds : Rows.FlatHeatsSaid := K.FlatHeats.holds
theorem flatProfiles_holds : Rows.FlatProfilesSaid := K.FlatProfiles.holds
theorem flatBetween_holds : Rows.FlatBetweenSaid := K.FlatBetween.holds
end Go.Proofs.Ytpjfmeijfkbfaaa
