/-
  This seat's program calls nothing of the library for which a contract is wanted. Conditions: none.
-/
import Derived.Test.YtoafncfknllghaaDoorProg
