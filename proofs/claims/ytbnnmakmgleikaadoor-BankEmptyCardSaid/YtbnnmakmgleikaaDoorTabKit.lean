/-
  The library's table of powers of ten.
-/
import Derived.Test.YtbnnmakmgleikaaDoorMoneyWords
import Derived.Test.YtbnnmakmgleikaaDoorShelf
namespace Go.Proofs.YtbnnmakmgleikaaDoor
open Go.RowKit

/-- The library's table of powers of ten lies where it lay. -/
def Tab (w : World) : Prop := Lib.TabIs Tryd.prog w "internal/strconv.uint64pow10" .u64 Lib.pow10Tab
theorem Tab.on {w w' : World} (h : Tab w) (hb : Below w.heap.size w w') : Tab w' := (Lib.tabBelow_of_tabIs h).on hb |>.here
end Go.Proofs.YtbnnmakmgleikaaDoor
