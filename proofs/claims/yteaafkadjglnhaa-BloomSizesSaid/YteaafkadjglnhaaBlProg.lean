/- The contracts of the program's Hash, Has and Make, as stage 12's statements ask for them. Conditions: at most 2^43 texts; lengths that Go's strings and slices have. -/
import Derived.Test.YteaafkadjglnhaaBlMakeW
import Derived.Test.YteaafkadjglnhaaBlOnce
namespace Go.Proofs.Yteaafkadjglnhaa.BlProg
open Go Go.RowKit Words Less BlSpec BlLaw BlMake BlPlace BlMakeW BlOnce

theorem bloom : Bloom 8796093022208 where
  big := by decide
  hash_ := fun w s hl => (hash_any s w hl).mono fun _ _ h => ⟨h.1, h.2 ▸ Below.refl _ w⟩
  has_ := fun w f s A c h1 hm hc hf hl => has_any f s w A c h1 hm hc hf hl
  make_ := fun w l A c h1 hm hc hl hs => make_walk (fun w l A c h hl => clone_any w l A c h hl) (fun ws base v w h hl => sort_any ws base v w h hl) (fun ws base v w h hl => compact_any ws base v w h hl) w l A c h1 hm hc hl hs
end Go.Proofs.Yteaafkadjglnhaa.BlProg
