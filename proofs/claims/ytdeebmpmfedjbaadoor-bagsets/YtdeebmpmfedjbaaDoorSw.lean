/- BagSets: the switch. -/
import Derived.Test.YtdeebmpmfedjbaaDoorA4
import Derived.Test.YtdeebmpmfedjbaaDoorA6
import Derived.Test.YtdeebmpmfedjbaaDoorA7
import Derived.Test.YtdeebmpmfedjbaaDoorA8
import Derived.Test.YtdeebmpmfedjbaaDoorA9
import Derived.Test.YtdeebmpmfedjbaaDoorAd
namespace Go.Proofs.YtdeebmpmfedjbaaDoor
open Go Go.RowKit Bag
theorem sw_any : SwOk (fun _ => True) := by
  intro Q a w w0 u0 u1 u2 u19 u20 u21 u22 u23 u24 u25 gs gm go gw B f g y k b8 b9 hk H hA hgo
  by_cases h4 : k = 4
  · exact sw_4 h4 H hA hgo
  by_cases h5 : k = 5
  · exact sw_5 h5 H hA hgo
  by_cases h6 : k = 6
  · exact sw_6 h6 H hA hgo
  by_cases h7 : k = 7
  · exact sw_7 h7 H hA hgo
  by_cases h8 : k = 8
  · exact sw_8 h8 H hA hgo
  by_cases h9 : k = 9
  · exact sw_9 h9 H hA hgo
  exact sw_d ⟨by simpa using h4, by simpa using h5, by simpa using h6, by simpa using h7, by simpa using h8, by simpa using h9⟩ H hA hgo
end Go.Proofs.YtdeebmpmfedjbaaDoor
