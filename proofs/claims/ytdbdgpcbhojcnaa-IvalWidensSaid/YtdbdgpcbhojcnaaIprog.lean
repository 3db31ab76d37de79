import Derived.Test.YtdbdgpcbhojcnaaJb
import Derived.Test.YtdbdgpcbhojcnaaJs
import Derived.Test.YtdbdgpcbhojcnaaJm
import Derived.Test.YtdbdgpcbhojcnaaJq
import Derived.Test.YtdbdgpcbhojcnaaJn
import Derived.Test.YtdbdgpcbhojcnaaIdv
import Derived.Test.YtdbdgpcbhojcnaaIrm
set_option linter.unusedVariables false
/- Package ival at the landed code: its contracts (phas_any, pleq_any, pjoin_any, pmeet_any: Ja; pwiden_any: Jb; pneg_any, padd_any, psub_any: Js; pmul_any: Jm; prem_any: Jq; pdiv_any: Jn) together, for the laws' texts. -/
namespace Go.Proofs.Ytdbdgpcbhojcnaa
open Go.RowKit
theorem IntsAt.cellsOk {w w1 : World} {v : Value} {ts : List Int} (h : SInts w v ts) (hb : Ok w w1) : SInts w1 v ts := h.ok hb
end Go.Proofs.Ytdbdgpcbhojcnaa
