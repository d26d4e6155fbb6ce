/-
  A file's bytes, written: the contract of write.
-/
import Derived.Test.YtiedobpgfhmidabWriteA
namespace Go.Proofs.Ytiedobpgfhmidab
open Go.RowKit Go.Maps

end Go.Proofs.Ytiedobpgfhmidab
