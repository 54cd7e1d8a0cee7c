/- The second text of contracts: all lie in the first. -/
import Derived.Test.YtkdildgdodnbbaaGreatDoorShelf
