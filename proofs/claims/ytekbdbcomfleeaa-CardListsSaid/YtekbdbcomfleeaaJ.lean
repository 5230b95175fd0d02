/- The contracts of none, Put and Next of a codec of lists of numbers (layer 1, octet), told of whatever functions are in it. -/
import Derived.Test.YtekbdbcomfleeaaD
namespace Go.Proofs.Ytekbdbcomfleeaa
open Go.RowKit
end Go.Proofs.Ytekbdbcomfleeaa
