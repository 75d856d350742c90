import Derived.Test.YtlnncnbahmgpfaaDoorZ31
import Derived.Test.YtlnncnbahmgpfaaDoorZ38
import Derived.Test.YtlnncnbahmgpfaaDoorZ41
import Derived.Test.YtlnncnbahmgpfaaDoorZ43
import Derived.Test.YtlnncnbahmgpfaaDoorZ27
import Derived.Test.YtlnncnbahmgpfaaDoorZ5
import Derived.Test.YtlnncnbahmgpfaaDoorZ33
import Derived.Test.YtlnncnbahmgpfaaDoorZ26
import Derived.Test.YtlnncnbahmgpfaaDoorZ3
import Derived.Test.YtlnncnbahmgpfaaDoorZ4

/-
  What package quad's calls answer, put together.
-/
