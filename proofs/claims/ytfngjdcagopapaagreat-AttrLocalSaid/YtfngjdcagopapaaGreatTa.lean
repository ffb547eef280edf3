/-
  Touch's texts, for a seat that has the document's answer too.
-/
import Derived.Test.YtfngjdcagopapaaGreatTz
import Derived.Test.YtfngjdcagopapaaGreatTRz
namespace Go.Proofs.YtfngjdcagopapaaGreat
end Go.Proofs.YtfngjdcagopapaaGreat
