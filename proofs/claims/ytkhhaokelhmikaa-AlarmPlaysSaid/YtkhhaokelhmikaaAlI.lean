/- The project's table of deadlines: all of it. -/
import Derived.Test.YtkhhaokelhmikaaAlD
import Derived.Test.YtkhhaokelhmikaaAlF
namespace Go.Proofs.Ytkhhaokelhmikaa
end Go.Proofs.Ytkhhaokelhmikaa
