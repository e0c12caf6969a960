/- What the project's queue is asked: all of it. -/
import Derived.Test.YtdjopbhjfnakdaaPqG
namespace Go.Proofs.Ytdjopbhjfnakdaa
open Go.RowKit
theorem pq_all : True := trivial
end Go.Proofs.Ytdjopbhjfnakdaa
