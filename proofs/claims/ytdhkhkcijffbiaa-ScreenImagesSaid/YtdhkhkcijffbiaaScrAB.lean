/-
  Screening (layer 15): the program's seven functions keep what the laws want of them.
-/
import Derived.Test.YtdhkhkcijffbiaaScrAA
import Derived.Test.YtdhkhkcijffbiaaScrC
namespace Go.Proofs.Ytdhkhkcijffbiaa
open Go.RowKit

theorem scr_ok : ScrOk where
  new a b c d w := (pnew_any a b c d w).mono fun _ _ ⟨h1, h2⟩ => ⟨none, 0, h1, h2⟩
  start b s bag now A c w hv h _ := pstart_any b s bag now A c w hv h
  expire b s now A c w hv h _ := (pexpire_any b s now A c w hv h).mono fun _ _ h => h.gives
  verdict b s image clear now A c w hv h _ := pverdict_any b s image clear now A c w hv h
  find b s bag A c w hv h _ := pfind_any b s bag A c w hv h
  alarms b s A c w hv hd h _ := palarms_any b s A c w hv hd h
  cleared b s A c w hv h _ := pcleared_any b s A c w hv h
end Go.Proofs.Ytdhkhkcijffbiaa
