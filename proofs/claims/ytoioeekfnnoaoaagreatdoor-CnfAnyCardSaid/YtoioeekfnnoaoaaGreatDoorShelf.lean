/- The contracts lie in another text. -/
import Derived.Test.YtoioeekfnnoaoaaGreatDoorProg
