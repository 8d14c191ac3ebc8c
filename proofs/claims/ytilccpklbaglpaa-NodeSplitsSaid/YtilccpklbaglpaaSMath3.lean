/- Bodies of rows that are told by other rows; nothing of the program. -/
import Derived.Test.YtilccpklbaglpaaRows2
set_option maxRecDepth 100000
set_option maxHeartbeats 4000000
set_option linter.unusedVariables false
namespace Go.Proofs.Ytilccpklbaglpaa
namespace Sl
open Oc
variable {α β : Type}
def Sh.via (S : Sh α) (f : β → α) : Sh β := ⟨fun x => S.enc (f x), fun x => S.key (f x), fun x => S.fits (f x)⟩
theorem rises_map (S : Sh α) (f : β → α) : ∀ l : List β, rises S (l.map f) = rises (S.via f) l
  | [] => rfl
  | [_] => rfl
  | a :: b :: l => by
    have := rises_map S f (b :: l)
    simp only [List.map_cons] at this ⊢
    rw [rises, rises, this]; rfl
theorem any_map (S : Sh α) (f : β → α) (l : List β) : (l.map f).any (long S) = l.any (long (S.via f)) := by
  rw [List.any_map]; rfl
theorem right_map (S : Sh α) (f : β → α) (l : List β) : right S (l.map f) = right (S.via f) l := by
  unfold right; rw [any_map, rises_map]
theorem sum_map (S : Sh α) (f : β → α) (l : List β) : sum S (l.map f) = sum (S.via f) l := by
  unfold sum; rw [List.map_map]; rfl
theorem begins_map (S : Sh α) (f : β → α) : ∀ (l : List β) (n : Nat), begins S n (l.map f) = begins (S.via f) n l
  | [], _ => rfl
  | x :: l, n => by rw [List.map_cons, begins, begins, begins_map S f l]; rfl
theorem body_map (S : Sh α) (f : β → α) (l : List β) : body S (l.map f) = body (S.via f) l := by
  unfold body; rw [begins_map, List.length_map, List.flatMap_map]; rfl
theorem bodyR_map (S : Sh α) (f : β → α) (l : List β) : bodyR S (l.map f) = bodyR (S.via f) l := by
  unfold bodyR; rw [right_map, sum_map, body_map]
theorem shR_true : shR true = shC := rfl
theorem shR_false : (shR false).via toC = shK := rfl
theorem bare_body (l : List Kd) : bodyR (shR false) (l.map toC) = bodyR shK l := by rw [bodyR_map, shR_false]
theorem bare_sum (l : List Kd) : sum (shR false) (l.map toC) = sum shK l := by rw [sum_map, shR_false]
end Sl
end Go.Proofs.Ytilccpklbaglpaa
