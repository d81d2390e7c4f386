/- What the calls of package nat give back: all of them. -/
import Derived.Test.YtkceldnljppflaaDoorN2e
import Derived.Test.YtkceldnljppflaaDoorN2g
import Derived.Test.YtkceldnljppflaaDoorN2n
import Derived.Test.YtkceldnljppflaaDoorN2q
import Derived.Test.YtkceldnljppflaaDoorN2s
import Derived.Test.YtkceldnljppflaaDoorRef02k
import Derived.Test.YtkceldnljppflaaDoorRef02l
import Derived.Test.YtkceldnljppflaaDoorRef02m
import Derived.Test.YtkceldnljppflaaDoorRef02b
