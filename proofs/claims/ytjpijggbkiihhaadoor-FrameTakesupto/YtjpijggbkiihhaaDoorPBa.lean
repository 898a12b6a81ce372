/-
  A text and nothing is the text. No condition.
-/
import Derived.Test.YtjpijggbkiihhaaDoorPBack
namespace Go.Proofs.YtjpijggbkiihhaaDoor
theorem ba_empty_append (a : ByteArray) : (⟨#[]⟩ : ByteArray) ++ a = a := by apply ba_ext; rw [ba_append]; rfl
theorem ba_append_empty (a : ByteArray) : a ++ (⟨#[]⟩ : ByteArray) = a := by apply ba_ext; rw [ba_append]; simp
theorem ba_assoc (a b c : ByteArray) : a ++ b ++ c = a ++ (b ++ c) := by apply ba_ext; simp only [ba_append, List.append_assoc]
end Go.Proofs.YtjpijggbkiihhaaDoor
