/- The landed sets keep all that the laws ask. -/
import Derived.Test.YtoccgpkpmhkeiaaUniX6
import Derived.Test.YtoccgpkpmhkeiaaUniB
import Derived.Test.YtoccgpkpmhkeiaaUniN
import Derived.Test.YtoccgpkpmhkeiaaUniO
import Derived.Test.YtoccgpkpmhkeiaaUniP
import Derived.Test.YtoccgpkpmhkeiaaUniR
import Derived.Test.YtoccgpkpmhkeiaaUniS
namespace Go.Proofs.Ytoccgpkpmhkeiaa.Uni
open Go.RowKit Go.Proofs.Ytoccgpkpmhkeiaa.Inst

theorem landed : UniC UnX where
  off := by
    rintro w u b lo hi x y L ⟨N, A, n, c, h⟩ ho hf
    exact ⟨N, A, n, c, h.off ho hf⟩
  is := by
    rintro w b lo hi L ⟨N, A, n, c, h⟩
    exact ⟨h.size, h.few, h.canon⟩
  new := fun n w hn h9 => new_any n hn h9 w
  join := by
    rintro b lo hi L x y w ⟨N, A, n, c, h⟩ hx hy
    exact (join_any x y hx hy w ⟨N, h⟩).mono fun e u ⟨he, hu, ho⟩ => ⟨he, hu.un, ho⟩
  same := by
    rintro b lo hi L x y w ⟨N, A, n, c, h⟩ hx hy
    exact (same_any x y hx hy w ⟨N, h⟩).mono fun e u ⟨he, hu, ho⟩ => ⟨he, hu.un, ho⟩
  least := by
    rintro b lo hi L x w ⟨N, A, n, c, h⟩ hx
    exact (least_any x _ hx rfl w ⟨N, h⟩).mono fun e u ⟨he, hu, ho⟩ => ⟨he, hu.un, ho⟩
  many := by
    rintro b lo hi L w ⟨N, A, n, c, h⟩
    exact (many_any w h).mono fun e u ⟨he, hb⟩ => ⟨he, ⟨N, A, n, c, h.later hb⟩, Off.of hb⟩
  groups := by
    rintro b lo hi L w ⟨N, A, n, c, h⟩
    exact (groups_any w ⟨N, h⟩).mono fun e u ⟨v, he, hg, hu, ho⟩ => ⟨v, he, hg, hu.un, ho⟩
  join0 := fun x y w hx hy => join0_any x y w hx hy
  same0 := fun x y w hx hy => same0_any x y w hx hy
  least0 := fun x w hx => (least0_any x hx w).mono fun e u ⟨he, hw⟩ => ⟨he, by subst hw; exact Below.refl _ _⟩
  many0 := fun w => many0_any w
  groups0 := fun w => groups0_any w
end Go.Proofs.Ytoccgpkpmhkeiaa.Uni
