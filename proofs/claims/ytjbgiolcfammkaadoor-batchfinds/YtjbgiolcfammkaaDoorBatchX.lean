/-
  What package batch answers: Right, Bytes, Read (Keys, Find, Make lie in texts of their own).
-/
import Derived.Test.YtjbgiolcfammkaaDoorBatchXb
import Derived.Test.YtjbgiolcfammkaaDoorBatchXc
