/- How often a door is held. Plain. -/
import Derived.Test.YtgcgbiaigbblkaaDoorBase
namespace Go.Proofs.YtgcgbiaigbblkaaDoor

/-- How often a door was held, behind a tick: the greatest int stays (whatever Held was). -/
def heldK (l k : Int) (o : Bool) : Int := if l ≤ 0 then 0 else if 1 < l then k else if o = true then min k 9223372036854775806 + 1 else 0
end Go.Proofs.YtgcgbiaigbblkaaDoor
