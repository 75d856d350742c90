import Derived.Test.YtlnncnbahmgpfaaGreatDoorZ30
import Derived.Test.YtlnncnbahmgpfaaGreatDoorZ37
import Derived.Test.YtlnncnbahmgpfaaGreatDoorZ40
import Derived.Test.YtlnncnbahmgpfaaGreatDoorZ42
import Derived.Test.YtlnncnbahmgpfaaGreatDoorZ27
import Derived.Test.YtlnncnbahmgpfaaGreatDoorZ5
import Derived.Test.YtlnncnbahmgpfaaGreatDoorZ32
import Derived.Test.YtlnncnbahmgpfaaGreatDoorZ22
import Derived.Test.YtlnncnbahmgpfaaGreatDoorZ3
import Derived.Test.YtlnncnbahmgpfaaGreatDoorZ4

/-
  What package quad's calls answer, put together.
-/
