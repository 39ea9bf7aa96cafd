/- Package shape: Contains. -/
import Derived.Test.YtknjdkgemkmoeaaShape
namespace Go.Proofs.Ytknjdkgemkmoeaa
open Go.ChangeShapes Go.WideShapes Go.ChangeAt Go.RowKit Go.Shelf
open Fxm
set_option linter.unusedSimpArgs false
set_option linter.unusedVariables false
attribute [local go_sem] Oper.semAt_some

theorem two_new {W w' : World} {k : Nat} {v0 v1 u0 u1 : Value} {T U : TypeId} (h : w' = ((W.drewN k).alloc (.cells #[v0, v1] T)).alloc (.cells #[u0, u1] U)) :
    Below W.heap.size W w' ∧ w'.cell? ⟨W.heap.size, 0, none⟩ = some v0 ∧ w'.cell? ⟨W.heap.size, 1, none⟩ = some v1 ∧ w'.cell? ⟨W.heap.size + 1, 0, none⟩ = some u0 ∧ w'.cell? ⟨W.heap.size + 1, 1, none⟩ = some u1 := by
  subst h
  have hz : ((W.drewN k).alloc (.cells #[v0, v1] T)).heap.size = W.heap.size + 1 := by rw [World.size_alloc]; rfl
  refine ⟨below_step (below_step (below_drewN _ _) (alloc_below _ _)) (alloc_below _ _), ?_, ?_, ?_, ?_⟩
  · exact cell_alloc (World.cell?_alloc_new (w := W.drewN k) #[v0, v1] T 0) (by rw [hz]; simp)
  · exact cell_alloc (World.cell?_alloc_new (w := W.drewN k) #[v0, v1] T 1) (by rw [hz]; simp)
  · have := World.cell?_alloc_new (w := (W.drewN k).alloc (.cells #[v0, v1] T)) #[u0, u1] U 0
    rwa [hz] at this
  · have := World.cell?_alloc_new (w := (W.drewN k).alloc (.cells #[v0, v1] T)) #[u0, u1] U 1
    rwa [hz] at this

end Go.Proofs.Ytknjdkgemkmoeaa
