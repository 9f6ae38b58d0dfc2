import Derived.Carry
import Derived.ChangeSame
import Derived.ChangeVars
import Derived.JoinedOf
import Derived.LaidHandle
import Derived.LaidLaws
import Derived.LaidMore
import Derived.OpenShut
import Derived.ProofKit
import Derived.RowKit
import Derived.RowKitTokens
import Derived.SizedLaws
import Derived.SliceStrings
import Derived.Stop.Joined
import Derived.Stop.LaidErr
import Derived.Test.YtahpihjialbanaaGreatDoorRows
import Derived.Test.YtahpihjialbanaaGreatDoorQbl
set_option linter.unusedVariables false
set_option linter.unusedSimpArgs false
namespace Go.Proofs.YtahpihjialbanaaGreatDoor
section
open Go.ChangeShapes Go.WideShapes Go.RowKit
theorem Tryz.own:ownKnob Tryz.prog.godebug=none:=by kernel_rfl
theorem Tryz.gPow:Tryz.prog.globalNamed "internal/strconv.uint64pow10"=some 1:=by kernel_rfl
theorem Tryz.tPow:(Tryz.prog.globals[1]?).map (·.type)=some 279:=by kernel_rfl
theorem Tryz.cellsU64:Tryz.prog.cellsOf 186=1:=by kernel_rfl
theorem Tryz.cellsPow:Tryz.prog.cellsOf 279=20:=by kernel_rfl
theorem Tryz.gRnd:Tryz.prog.globalNamed "sqlproof/digest.rounds"=some 0:=by kernel_rfl
theorem Tryz.tRnd:(Tryz.prog.globals[0]?).map (·.type)=some 146:=by kernel_rfl
theorem Tryz.cellsU32:Tryz.prog.cellsOf 143=1:=by kernel_rfl
theorem Tryz.cellsRnd:Tryz.prog.cellsOf 146=64:=by kernel_rfl
def laid4:List (String×DataW Unit):=[("math/bits.deBruijn32tab",Rows.laid_math_bits_deBruijn32tab),("math/bits.deBruijn64tab",Rows.laid_math_bits_deBruijn64tab),("internal/strconv.uint64pow10",Rows.laid_internal_strconv_uint64pow10),("sqlproof/digest.rounds",Rows.laid_sqlproof_digest_rounds)]
theorem jQqQ:(Rows.laid_sqlproof_digest_rounds:DataW Unit)=Lib.tabData .u32 Sq.roundTab:=by rfl
theorem jQqR:(Rows.laid_internal_strconv_uint64pow10:DataW Unit)=Lib.tabData .u64 Lib.pow10Tab:=by rfl
theorem jQeU (os:Os)(args:Array Value):laidMetH Tryz.prog laid4 ((World.doorLaid Tryz.prog 400 os).forCall (fun _ _=>0) ⟨#[],args,[]⟩).memory :=
 laidMetH_of_parts3 (fuel:=8) (laidMet_of_run' 8 (by kernel_rfl) (by kernel_rfl)) (by kernel_rfl) (by kernel_rfl)
theorem jQbh {W:World}(h:laidMetH Tryz.prog laid4 W):Tbl W:=by
 rw[MakeChecks.laidMetH_plain _ _ _ (by kernel_rfl)] at h
 have h2:=laidMet.tail (laidMet.tail h)
 rw[jQqR] at h2
 exact Lib.tabIs_of_head Tryz.gPow Tryz.tPow Tryz.underlying279 Tryz.underlying186 Tryz.cellsU64 Tryz.cellsPow h2
theorem jQbj {W:World}(h:laidMetH Tryz.prog laid4 W):Rnd W:=by
 rw[MakeChecks.laidMetH_plain _ _ _ (by kernel_rfl)] at h
 have h2:=laidMet.tail (laidMet.tail (laidMet.tail h))
 rw[jQqQ] at h2
 exact Lib.tabIs_of_head Tryz.gRnd Tryz.tRnd Tryz.underlying146 Tryz.underlying143 Tryz.cellsU32 Tryz.cellsRnd h2
end
end Go.Proofs.YtahpihjialbanaaGreatDoor
