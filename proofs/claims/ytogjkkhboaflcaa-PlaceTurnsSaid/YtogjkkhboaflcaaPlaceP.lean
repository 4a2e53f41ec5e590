/-
  The places of a packet as plain data.
-/
import Derived.Test.YtogjkkhboaflcaaPlaceM
import Derived.Test.YtogjkkhboaflcaaBase
namespace Go.Proofs.Ytogjkkhboaflcaa

/-- The places of a packet of len bytes; of bytes, none where they are no packet's. -/
def placesP (p : Pk) (len : Nat) : List Pl := basePl ++ (csrcPl p.hd.csrc.length ++ (extPl p.hd.ext p.hd.csrc.length p.ext.length ++ (payPl (atX p.hd.ext p.hd.csrc.length p.ext.length) p.pay.length ++ (fillPl (atX p.hd.ext p.hd.csrc.length p.ext.length + p.pay.length) p.pad ++ countPl len p.pad))))
def placesS (s : List UInt8) : List Pl := if pErr s = 0 then placesP (packOf s) s.length else []

end Go.Proofs.Ytogjkkhboaflcaa
