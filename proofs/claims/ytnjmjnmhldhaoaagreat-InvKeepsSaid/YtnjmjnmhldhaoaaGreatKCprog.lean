import Derived.Test.YtnjmjnmhldhaoaaGreatKKn
import Derived.Test.YtnjmjnmhldhaoaaGreatKKq
import Derived.Test.YtnjmjnmhldhaoaaGreatKKt
set_option linter.all false
namespace Go.Proofs.YtnjmjnmhldhaoaaGreat
section
open Go.RowKit
theorem field_far (a b c:Value) (w:World):(Instr.field 78 (.agg #[a,b,c]) 0).run Tryz.prog w=.ok (.agg #[a,b]) w:=by kernel_rfl
attribute [local go_sem] field_far
end
section
open Go.RowKit
theorem pmul_any (cM cR dM dR:Nat) (ex:Bool) (h1:U64 cM) (h2:U64 cR) (h3:U64 dM) (h4:U64 dR) (w0 w:World) (hok:Ok w0 w) :
  Calls Tryz.prog 207 #[cv cM cR,cv dM dR,.bool ex] w fun e w'=>e=.returned (cv (mulC cM cR dM dR ex).1 (mulC cM cR dM dR ex).2)/\Ok w0 w':=by
 by_cases h0:cM=0/\dM=0
 ·obtain ⟨rfl,rfl⟩:=h0
  exact pmul_one cR dR ex w0 w hok
 ·by_cases hc:cM=0/\cR=0
  ·obtain ⟨rfl,rfl⟩:=hc
   exact pmul_zero dM dR ex (by omega) w0 w hok
  ·by_cases hd:dM=0/\dR=0
   ·obtain ⟨rfl,rfl⟩:=hd
    exact pmul_c cM cR ex (by omega) w0 w hok
   ·by_cases hz:cM=0
    ·exact pmul_b cM cR dM dR ex hz h0 hc hd h1 h2 h3 h4 w0 w hok
    ·exact pmul_d cM cR dM dR ex hz h0 hc hd h1 h2 h3 h4 w0 w hok
end
end Go.Proofs.YtnjmjnmhldhaoaaGreat
