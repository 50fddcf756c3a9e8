import Derived.Test.YtbgkaiajodjpnaaDoorP
import Derived.KernelRfl
namespace Go.Proofs.YtbgkaiajodjpnaaDoor
namespace M
def rep (n : Nat) (l : List UInt8) : List UInt8 := (List.replicate n l).flatten
def deepT (n : Nat) : List UInt8 := [102, 117, 110, 32, 102, 40, 41, 32, 123] ++ rep n [119, 104, 105, 108, 101, 32, 120, 32, 123] ++ rep n [125] ++ [125]
def deepOk (n : Nat) : Bool := match parse (deepT n) with
  | .ok [f] => decide (n ≤ 31) && f.body.len == 1
  | .error f => decide (31 < n) && f == (21, 296)
  | _ => false
theorem deep_all : ∀ n : Fin 61, n.val = 0 ∨ deepOk n.val = true := by decide +kernel
end M
end Go.Proofs.YtbgkaiajodjpnaaDoor
