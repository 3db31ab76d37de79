import Derived.Test.YtdbdgpcbhojcnaaIrem1
import Derived.Test.YtdbdgpcbhojcnaaIrem2
import Derived.Test.YtdbdgpcbhojcnaaIrem3
import Derived.Test.YtdbdgpcbhojcnaaIrem4
import Derived.Test.YtdbdgpcbhojcnaaIrem5
set_option linter.unusedVariables false
set_option linter.unusedSimpArgs false
set_option linter.unnecessarySimpa false
namespace Go.Proofs.Ytdbdgpcbhojcnaa
open Go.RowKit
/- The document's Rem (winnowref11): contract. -/
theorem rrem_any (al ah bl bh : Int) (w0 w : World) (hok : Ok w0 w) (ha1 : In64 al) (ha2 : In64 ah) (hb1 : In64 bl) (hb2 : In64 bh) :
    Calls Try.prog 35 #[.agg #[.int .i64 al, .int .i64 ah], .agg #[.int .i64 bl, .int .i64 bh]] w fun e w' => e = .returned (.tuple #[.agg #[.int .i64 (remI al ah bl bh).1, .int .i64 (remI al ah bl bh).2.1], .bool (remI al ah bl bh).2.2]) ∧ Ok w0 w' := by
  suffices h : Calls Try.prog 35 #[.agg #[.int .i64 al, .int .i64 ah], .agg #[.int .i64 bl, .int .i64 bh]] w fun e w' => e = .returned (.tuple #[.agg #[.int .i64 (remI al ah bl bh).1, .int .i64 (remI al ah bl bh).2.1], .bool (remI al ah bl bh).2.2]) ∧ Ok w w' by
    exact h.mono (fun e w' h => ⟨h.1, hok.step h.2⟩)
  by_cases e1 : ah < al
  · exact rrem_none al ah bl bh w ha1 ha2 hb1 hb2 e1
  by_cases k : al = ah ∧ bl = bh
  · by_cases e2 : (rDn bl bh).2 < (rDn bl bh).1
    · by_cases e3 : (rUp bl bh).2 < (rUp bl bh).1
      · exact rrem_none2 al ah bl bh w ha1 ha2 hb1 hb2 e1 e2 e3
      · exact rrem_sA al ah bl bh w ha1 ha2 hb1 hb2 e1 e2 e3 k.1 k.2
    · exact rrem_sB al ah bl bh w ha1 ha2 hb1 hb2 e1 e2 k.1 k.2
  by_cases kn : max (farI al) (farI ah) < remNear bl bh
  all_goals
    by_cases e2 : (rDn bl bh).2 < (rDn bl bh).1
    all_goals by_cases e3 : (rUp bl bh).2 < (rUp bl bh).1
  · exact rrem_none2 al ah bl bh w ha1 ha2 hb1 hb2 e1 e2 e3
  · exact rrem_Anear al ah bl bh w ha1 ha2 hb1 hb2 e1 e2 e3 k kn
  · exact rrem_Bnear al ah bl bh w ha1 ha2 hb1 hb2 e1 e2 e3 k kn
  · by_cases p : farI (rUp bl bh).1 < farI (rDn bl bh).2 <;> by_cases q : farI (rDn bl bh).1 < farI (rUp bl bh).2
    · exact rrem_C11near al ah bl bh w ha1 ha2 hb1 hb2 e1 e2 e3 p q k kn
    · exact rrem_C12near al ah bl bh w ha1 ha2 hb1 hb2 e1 e2 e3 p (by omega) k kn
    · exact rrem_C21near al ah bl bh w ha1 ha2 hb1 hb2 e1 e2 e3 (by omega) q k kn
    · exact rrem_C22near al ah bl bh w ha1 ha2 hb1 hb2 e1 e2 e3 (by omega) (by omega) k kn
  · exact rrem_none2 al ah bl bh w ha1 ha2 hb1 hb2 e1 e2 e3
  · exact rrem_Afar al ah bl bh w ha1 ha2 hb1 hb2 e1 e2 e3 k kn
  · exact rrem_Bfar al ah bl bh w ha1 ha2 hb1 hb2 e1 e2 e3 k kn
  · by_cases p : farI (rUp bl bh).1 < farI (rDn bl bh).2 <;> by_cases q : farI (rDn bl bh).1 < farI (rUp bl bh).2
    · exact rrem_C11far al ah bl bh w ha1 ha2 hb1 hb2 e1 e2 e3 p q k kn
    · exact rrem_C12far al ah bl bh w ha1 ha2 hb1 hb2 e1 e2 e3 p (by omega) k kn
    · exact rrem_C21far al ah bl bh w ha1 ha2 hb1 hb2 e1 e2 e3 (by omega) q k kn
    · exact rrem_C22far al ah bl bh w ha1 ha2 hb1 hb2 e1 e2 e3 (by omega) (by omega) k kn
end Go.Proofs.Ytdbdgpcbhojcnaa
