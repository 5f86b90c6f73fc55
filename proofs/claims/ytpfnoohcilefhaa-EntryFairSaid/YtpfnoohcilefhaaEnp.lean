/-
  Layer 19, the program's contracts: all of them.
-/
import Derived.Test.YtpfnoohcilefhaaEp6
import Derived.Test.YtpfnoohcilefhaaEp4
import Derived.Test.YtpfnoohcilefhaaEnf
import Derived.Test.YtpfnoohcilefhaaEnd
