/- Layer 3's laws, as their rows call them. -/
import Derived.Test.YtplhhpcjcpnegaaDoorLaw3Back
namespace Go.Proofs.YtplhhpcjcpnegaaDoor.Val
open Go.RowKit
theorem cut_row {w : World} (x : Raw) (hx : x.Ok) (xlv : Value) (hl : RawL w x.l xlv) (c : Int) (c1 : -9223372036854775808 ≤ c) (c2 : c ≤ 9223372036854775807) (ae : Addr) (hE : Env ae w) :
    Calls Tryd.prog 5 #[.agg #[.int .i64 x.k, .int .i64 x.n, .string x.s, xlv], .int .i64 c] w fun e w' => e = .returned (.bool true) ∧ Below w.heap.size w w' := cut_any ae x hx c c1 c2 w xlv hl hE
theorem back_row {w : World} (x : Raw) (hx : x.Ok) (xlv : Value) (hl : RawL w x.l xlv) (y : Raw) (hy : y.Ok) (ylv : Value) (hm : RawL w y.l ylv) (sa : ByteArray) (ha : sa.size ≤ 140737488351232) (sb : ByteArray) (hb : sb.size ≤ 140737488351232) (ae : Addr) (hE : Env ae w) :
    Calls Tryd.prog 3 #[.agg #[.int .i64 x.k, .int .i64 x.n, .string x.s, xlv], .agg #[.int .i64 y.k, .int .i64 y.n, .string y.s, ylv], .string sa, .string sb] w fun e w' => e = .returned (.bool true) ∧ Below w.heap.size w w' := back_any ae x y hx hy sa sb ha hb w xlv ylv hl hm hE
end Go.Proofs.YtplhhpcjcpnegaaDoor.Val
