/- The landed sets, and the walk of UniteParts. -/
import Derived.Test.YtoccgpkpmhkeiaaUniX7
import Derived.Test.YtoccgpkpmhkeiaaUniT
