/- No contract of the shelf is wanted. -/
import Derived.Test.YtdcnpaodcjfdbaaGreatDoorProg
