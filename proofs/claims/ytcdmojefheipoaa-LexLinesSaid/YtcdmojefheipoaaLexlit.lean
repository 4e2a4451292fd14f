/-
  What lex.Scan answers of girdlelaw09.cuts' two texts.
-/
import Derived.Test.YtcdmojefheipoaaLexscan
namespace Go.Proofs.Ytcdmojefheipoaa
open Go.RowKit

def cutT1 : ByteArray := ⟨#[97, 32, 91, 45, 49, 47, 50, 44, 32, 48, 46, 53, 93, 32, 62, 61, 32, 51, 32, 35, 32, 115, 111, 10]⟩
def cutT2 : ByteArray := ⟨#[97, 32, 49, 47]⟩
def cutL1 : List Tk := [⟨0, 0, ⟨#[97]⟩⟩, ⟨2, 2, ⟨#[91]⟩⟩, ⟨1, 3, ⟨#[45, 49, 47, 50]⟩⟩, ⟨2, 7, ⟨#[44]⟩⟩, ⟨1, 9, ⟨#[48, 46, 53]⟩⟩, ⟨2, 12, ⟨#[93]⟩⟩, ⟨2, 14, ⟨#[62, 61]⟩⟩, ⟨1, 17, ⟨#[51]⟩⟩, ⟨3, 23, ⟨#[10]⟩⟩, ⟨4, 24, ⟨#[]⟩⟩]
deriving instance DecidableEq for Tk
deriving instance DecidableEq for Except
set_option maxRecDepth 100000 in
theorem cut1_is : scanL cutT1 = .ok cutL1 := by decide +kernel
set_option maxRecDepth 100000 in
theorem cut2_is : scanL cutT2 = .error (2, 2) := by decide +kernel

end Go.Proofs.Ytcdmojefheipoaa
