/- Layer sector: the methods of the statements' disk in memory, looked up behind an interface. -/
import Derived.Test.YtpkkejdjhnmjiaaSec6
namespace Go.Proofs.Ytpkkejdjhnmjiaa
open Go.RowKit Bm

theorem meth_sectors (k : Nat) (p : Nat) (w : World) : (method (k + 1) 24 (.pointer (some ⟨p, 0, none⟩)) "Sectors").run Try.prog w = .ok (46, .pointer (some ⟨p, 0, none⟩)) w := by kernel_rfl
theorem meth_read (k : Nat) (p : Nat) (w : World) : (method (k + 1) 24 (.pointer (some ⟨p, 0, none⟩)) "Read").run Try.prog w = .ok (45, .pointer (some ⟨p, 0, none⟩)) w := by kernel_rfl
theorem meth_write (k : Nat) (p : Nat) (w : World) : (method (k + 1) 24 (.pointer (some ⟨p, 0, none⟩)) "Write").run Try.prog w = .ok (48, .pointer (some ⟨p, 0, none⟩)) w := by kernel_rfl
theorem meth_trim (k : Nat) (p : Nat) (w : World) : (method (k + 1) 24 (.pointer (some ⟨p, 0, none⟩)) "Trim").run Try.prog w = .ok (47, .pointer (some ⟨p, 0, none⟩)) w := by kernel_rfl
end Go.Proofs.Ytpkkejdjhnmjiaa
