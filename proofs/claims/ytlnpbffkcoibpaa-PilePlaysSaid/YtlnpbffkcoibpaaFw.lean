/- The law PilePlays (layer 5), walked: out of its parts. -/
import Derived.Test.YtlnpbffkcoibpaaFmk0
import Derived.Test.YtlnpbffkcoibpaaFmk1
import Derived.Test.YtlnpbffkcoibpaaFmk2
import Derived.Test.YtlnpbffkcoibpaaFmk3
import Derived.Test.YtlnpbffkcoibpaaFmk4noa
import Derived.Test.YtlnpbffkcoibpaaFmk4nob
import Derived.Test.YtlnpbffkcoibpaaFmk4noc
import Derived.Test.YtlnpbffkcoibpaaFmk4yt
import Derived.Test.YtlnpbffkcoibpaaFmk4yf
import Derived.Test.YtlnpbffkcoibpaaFmk5noa
import Derived.Test.YtlnpbffkcoibpaaFmk5nob
import Derived.Test.YtlnpbffkcoibpaaFmk5noc
import Derived.Test.YtlnpbffkcoibpaaFmk5yt
import Derived.Test.YtlnpbffkcoibpaaFmk5yf
import Derived.Test.YtlnpbffkcoibpaaFmrest
import Derived.Test.YtlnpbffkcoibpaaFmrest2
import Derived.Test.YtlnpbffkcoibpaaFmend
namespace Go.Proofs.Ytlnpbffkcoibpaa
open Go.RowKit
theorem pilePlays_walk {u v : Value} {l : List Int} {m : List OpL} {w : World} (hu : IntsAt w u l) (hv : OpsAt w v m) (hl : l.length ≤ 9223372036854775807) (hm : m.length ≤ 9223372036854775807) :
    Calls Try.prog 3 #[u, v] w (RetV w (.bool true)) :=
  plays_cut.snd.snd.snd.snd.snd.snd.snd.snd.snd.snd.snd.snd.snd.snd.snd.snd.snd ⟨plays_K0⟩ ⟨plays_K1⟩ ⟨plays_K2⟩ ⟨plays_K3⟩ ⟨plays_K4noA⟩ ⟨plays_K4noB⟩ ⟨plays_K4noC⟩ ⟨plays_K4yt⟩ ⟨plays_K4yf⟩ ⟨plays_K5noA⟩ ⟨plays_K5noB⟩ ⟨plays_K5noC⟩ ⟨plays_K5yt⟩ ⟨plays_K5yf⟩ ⟨plays_REST⟩ ⟨plays_REST2⟩ ⟨plays_END⟩ u v l m w hu hv hl hm
end Go.Proofs.Ytlnpbffkcoibpaa
