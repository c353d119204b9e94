/- More plain functions: the checks on names. No Go here. -/
import Derived.Test.YtlpmkpjhdahfhaaGreatDoorPure
namespace RR

/-- Of procedures the least place of a parameter that is one too many, from the procedure j on. -/
def manyF (L : List Tk) (at_ : Int) : List Nat → Int
  | [] => at_
  | i :: r => manyF L (leastB at_ (pastB L (paramsB L i) 3)) r

def manyB (L : List Tk) : Int :=
  leastB (manyF L (leastB (leastB (pastB L (wordB L ⟨#[115, 104, 97, 114, 101, 100]⟩) 4) (pastB L (wordB L ⟨#[108, 111, 99, 107, 115]⟩) 3)) (pastB L (procsB L) 4)) (procsB L)) (pastB L (wordB L ⟨#[116, 104, 114, 101, 97, 100, 115]⟩) 3)

def tw1 (L : List Tk) (l : List Nat) (k : Nat) (x : Int) : Int :=
  if k < l.length then tw1 L l (k + 1) (if 0 ≤ indexB L (l.take k) (tk L (nth l k)).t then leastB x (tk L (nth l k)).p else x) else x
termination_by l.length - k
decreasing_by omega

def tw2 (L : List Tk) (l m : List Nat) (k : Nat) (x : Int) : Int :=
  if k < m.length then tw2 L l m (k + 1) (if 0 ≤ indexB L (m.take k) (tk L (nth m k)).t ∨ 0 ≤ indexB L l (tk L (nth m k)).t then leastB x (tk L (nth m k)).p else x) else x
termination_by m.length - k
decreasing_by omega

def tw3 (L : List Tk) (l : List Nat) : List Nat → Int → Int
  | [], x => x
  | i :: r, x => tw3 L l r (tw2 L l (paramsB L i) 0 x)

def twiceB (L : List Tk) : Int := tw3 L (ownersB L) (procsB L) (tw1 L (ownersB L) 0 (-1))

theorem ownersB_lt {L : List Tk} (hp : ProcOk L) : ∀ j ∈ ownersB L, j < L.length := by
  intro j hj
  unfold ownersB at hj
  rcases List.mem_append.1 hj with hj | hj
  · rcases List.mem_append.1 hj with hj | hj
    · exact wordF_lt _ _ _ j hj
    · exact wordF_lt _ _ _ j hj
  · exact procsF_lt hp 0 j hj
theorem ownersB_len (L : List Tk) : (ownersB L).length ≤ 3 * L.length := by
  have h1 := wordF_len L kShared 0
  have h2 := wordF_len L kLocks 0
  have h3 := procsF_len L 0
  unfold ownersB wordB procsB
  rw [List.length_append, List.length_append]; omega

end RR
