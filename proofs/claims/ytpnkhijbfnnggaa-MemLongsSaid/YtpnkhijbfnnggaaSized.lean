/- MemExact's contract, for sizes. -/
import Derived.Test.YtpnkhijbfnnggaaExact
import Derived.Test.YtpnkhijbfnnggaaSizes
namespace Go.Proofs.Ytpnkhijbfnnggaa
theorem exact_holds : ExactHolds := exact_walk
end Go.Proofs.Ytpnkhijbfnnggaa
