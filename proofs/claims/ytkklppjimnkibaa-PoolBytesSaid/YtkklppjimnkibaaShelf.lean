/-
  No contract of the library is laid at this seat.
-/
import Derived.Test.YtkklppjimnkibaaProg
