/- Joined -/
import Derived.Below
import Derived.Calls
namespace Go.Proofs.YtchideljndagjabGreat
open Go.RowKit
def cO (p:Prop):Prop:=p
theorem cO.o {p:Prop}(h:cO p):p:=h
theorem I {p:Prop}(h:p):cO p:=h
theorem A (p:Prop)(h:p):cO p:=h
theorem aI {P:Program}{f:FuncId}{a:Array Value}{w W:World}{r:Ending}{K:Ending->World->Prop}(h:Calls P f a w λe w1=>e=r/\w1=W)(k:K r W):Calls P f a w K:=h.mono (by rintro e w1 ⟨rfl,rfl⟩;exact k)
theorem aH {P:Program}{f:FuncId}{a:Array Value}{w:World}{r:Ending}{Q:World->Prop}{K:Ending->World->Prop}(h:Calls P f a w λe w1=>e=r/\Q w1)(k:∀w1,Q w1->K r w1):Calls P f a w K:=h.mono (by rintro e w1 ⟨rfl,q⟩;exact k w1 q)
theorem bj (w:World){Q:World->Prop}(h:∀W,Below w.1.size w W->Q W):cO (∀W,Below w.1.size w W->Q W):=h
theorem aj {α:Sort _}(a:α):∃b,b=a:=⟨a,rfl⟩
end Go.Proofs.YtchideljndagjabGreat

