/- slices.Clone of []string. No condition but lengths. -/
import Derived.Test.YtafkpdjcfokgbaaLruR
import Derived.Laws.Cover3
namespace Go.Proofs.Ytafkpdjcfokgbaa
open Go.RowKit

end Go.Proofs.Ytafkpdjcfokgbaa
