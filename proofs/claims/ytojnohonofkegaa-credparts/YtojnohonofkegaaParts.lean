/-
  CredParts: who has two rights has each of them: whoever asks.
-/
import Derived.Test.YtojnohonofkegaaParts0
import Derived.Test.YtojnohonofkegaaParts1
import Derived.Test.YtojnohonofkegaaParts2
import Derived.Test.YtojnohonofkegaaParts3
namespace Go.Proofs.Ytojnohonofkegaa
open Go.RowKit

theorem parts_walk (cu cg n k m u g l z a b : Int) (w : World) : Calls Try.prog 5 #[Cr cu cg, St n k m u g l z, I a, I b] w fun e w' => e = .returned (.bool true) ∧ Below w.heap.size w w' := by
  by_cases h0 : cu = 0
  · cases hA : may cu cg m u g a
    · exact parts0f _ _ _ _ _ _ _ _ _ _ _ _ hA h0
    · cases hB : may cu cg m u g b
      · exact parts0tf _ _ _ _ _ _ _ _ _ _ _ _ hA hB h0
      · exact parts0tt _ _ _ _ _ _ _ _ _ _ _ _ hA hB h0
  by_cases h1 : cu = u
  · cases hA : may cu cg m u g a
    · exact parts1f _ _ _ _ _ _ _ _ _ _ _ _ hA h0 h1
    · cases hB : may cu cg m u g b
      · exact parts1tf _ _ _ _ _ _ _ _ _ _ _ _ hA hB h0 h1
      · exact parts1tt _ _ _ _ _ _ _ _ _ _ _ _ hA hB h0 h1
  by_cases h2 : cg = g
  · cases hA : may cu cg m u g a
    · exact parts2f _ _ _ _ _ _ _ _ _ _ _ _ hA h0 h1 h2
    · cases hB : may cu cg m u g b
      · exact parts2tf _ _ _ _ _ _ _ _ _ _ _ _ hA hB h0 h1 h2
      · exact parts2tt _ _ _ _ _ _ _ _ _ _ _ _ hA hB h0 h1 h2
  · cases hA : may cu cg m u g a
    · exact parts3f _ _ _ _ _ _ _ _ _ _ _ _ hA h0 h1 h2
    · cases hB : may cu cg m u g b
      · exact parts3tf _ _ _ _ _ _ _ _ _ _ _ _ hA hB h0 h1 h2
      · exact parts3tt _ _ _ _ _ _ _ _ _ _ _ _ hA hB h0 h1 h2
end Go.Proofs.Ytojnohonofkegaa
