/-
  Nothing of the library's is laid here: what layer 12's statements reach needs none of it.
  Conditions: none.
-/
import Derived.Lib.Bytealg
import Derived.Lib.Strings
