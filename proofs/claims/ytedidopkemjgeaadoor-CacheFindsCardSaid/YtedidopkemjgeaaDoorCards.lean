/-
  DERIVED. GIVEN WITH THE SEED: THE CARDS: each row of YtedidopkemjgeaaDoorRows.lean that lists a variable, with what it lists TIED to the program's text (the seventh form; the later family's looks); each row that meets fmt, with fmt's text TOLD by the authors' own Lean function (tested against real Go, not proved from fmt's source: count such statements apart). THE CARD IS WHAT COUNTS. Prove the row's statement (the work); the ties are given (YtedidopkemjgeaaDoorTie.lean); close each card by the builder's one call (the guide's Derived/Test/ToyasCard.lean, 'card_holds'). Laid BY PROGRAM, IN A SANDBOX (cutbox-door.mjs). By AI agents, Wed Nov 11 2026. No macro, syntax, notation, axiom, sorry.
-/
import Derived.Test.YtedidopkemjgeaaDoorRows
import GoSem.ClaimSeven
namespace Go.Proofs.YtedidopkemjgeaaDoor
namespace Rows

/-- THE TIED CARD OF 'turnkeylaw10.CacheFinds'. -/
def cacheFindsCard : Claim7 := { stood := { row := cacheFindsRow, standIns := [], harness := (true, "06054f92ab69c2814009c07d34ee728d2ffa743829302d9416455ff0b7bc7dc4"), looks := true }, kinds := [], alts := [], laidByText := true, laidKinds := [.sentinel, .sentinel, .sentinel, .sentinel, .sentinel], laidTests := true, laidLooks := .later }
def CacheFindsCardSaid : Prop := Claim7.holds Tryd.pinned (.plain (OpenSpec.ofChange cacheFindsSpec)) cacheFindsCard

/-- THE TIED CARD OF 'turnkeylaw10.CacheHits'. -/
def cacheHitsCard : Claim7 := { stood := { row := cacheHitsRow, standIns := [], harness := (true, "06054f92ab69c2814009c07d34ee728d2ffa743829302d9416455ff0b7bc7dc4"), looks := true }, kinds := [], alts := [], laidByText := true, laidKinds := [.sentinel, .sentinel, .sentinel, .sentinel, .sentinel], laidTests := true, laidLooks := .later }
def CacheHitsCardSaid : Prop := Claim7.holds Tryd.pinned (.plain (OpenSpec.ofChange cacheHitsSpec)) cacheHitsCard

/-- THE TIED CARD OF 'turnkeylaw10.CacheEldest'. -/
def cacheEldestCard : Claim7 := { stood := { row := cacheEldestRow, standIns := [], harness := (true, "06054f92ab69c2814009c07d34ee728d2ffa743829302d9416455ff0b7bc7dc4"), looks := true }, kinds := [], alts := [], laidByText := true, laidKinds := [.sentinel, .sentinel, .sentinel, .sentinel, .sentinel, .sentinel, .sentinel, .sentinel, .sentinel, .sentinel, .sentinel, .sentinel], laidTests := true, laidLooks := .later }
def CacheEldestCardSaid : Prop := Claim7.holds Tryd.pinned (.plain (OpenSpec.ofChange cacheEldestSpec)) cacheEldestCard

/-- THE TIED CARD OF 'turnkeylaw10.CacheRoots'. -/
def cacheRootsCard : Claim7 := { stood := { row := cacheRootsRow, standIns := [], harness := (true, "06054f92ab69c2814009c07d34ee728d2ffa743829302d9416455ff0b7bc7dc4"), looks := true }, kinds := [], alts := [], laidByText := true, laidKinds := [.sentinel, .sentinel, .sentinel, .sentinel, .sentinel], laidTests := true, laidLooks := .later }
def CacheRootsCardSaid : Prop := Claim7.holds Tryd.pinned (.plain (OpenSpec.ofChange cacheRootsSpec)) cacheRootsCard

/-- THE TIED CARD OF 'turnkeylaw10.CacheGone'. -/
def cacheGoneCard : Claim7 := { stood := { row := cacheGoneRow, standIns := [], harness := (true, "06054f92ab69c2814009c07d34ee728d2ffa743829302d9416455ff0b7bc7dc4"), looks := true }, kinds := [], alts := [], laidByText := true, laidKinds := [.sentinel, .sentinel, .sentinel, .sentinel, .sentinel], laidTests := true, laidLooks := .later }
def CacheGoneCardSaid : Prop := Claim7.holds Tryd.pinned (.plain (OpenSpec.ofChange cacheGoneSpec)) cacheGoneCard

/-- THE TIED CARD OF 'turnkeylaw11.MemWords'. -/
def memWordsCard : Claim7 := { stood := { row := memWordsRow, standIns := [], harness := (true, "06054f92ab69c2814009c07d34ee728d2ffa743829302d9416455ff0b7bc7dc4"), looks := true }, kinds := [], alts := [], laidByText := true, laidKinds := [.sentinel, .sentinel, .sentinel, .sentinel, .sentinel], laidTests := true, laidLooks := .later }
def MemWordsCardSaid : Prop := Claim7.holds Tryd.pinned (.plain (OpenSpec.ofChange memWordsSpec)) memWordsCard

/-- THE TIED CARD OF 'turnkeylaw11.MemReadOnly'. -/
def memReadOnlyCard : Claim7 := { stood := { row := memReadOnlyRow, standIns := [], harness := (true, "06054f92ab69c2814009c07d34ee728d2ffa743829302d9416455ff0b7bc7dc4"), looks := true }, kinds := [], alts := [], laidByText := true, laidKinds := [.sentinel, .sentinel, .sentinel, .sentinel, .sentinel], laidTests := true, laidLooks := .later }
def MemReadOnlyCardSaid : Prop := Claim7.holds Tryd.pinned (.plain (OpenSpec.ofChange memReadOnlySpec)) memReadOnlyCard

/-- THE TIED CARD OF 'turnkeylaw11.MemStale'. -/
def memStaleCard : Claim7 := { stood := { row := memStaleRow, standIns := [], harness := (true, "06054f92ab69c2814009c07d34ee728d2ffa743829302d9416455ff0b7bc7dc4"), looks := true }, kinds := [], alts := [], laidByText := true, laidKinds := [.sentinel, .sentinel, .sentinel, .sentinel, .sentinel], laidTests := true, laidLooks := .later }
def MemStaleCardSaid : Prop := Claim7.holds Tryd.pinned (.plain (OpenSpec.ofChange memStaleSpec)) memStaleCard

/-- THE TIED CARD OF 'turnkeylaw11.MemSets'. -/
def memSetsCard : Claim7 := { stood := { row := memSetsRow, standIns := [], harness := (true, "06054f92ab69c2814009c07d34ee728d2ffa743829302d9416455ff0b7bc7dc4"), looks := true }, kinds := [], alts := [], laidByText := true, laidKinds := [.sentinel, .sentinel, .sentinel, .sentinel, .sentinel, .sentinel], laidTests := true, laidLooks := .later }
def MemSetsCardSaid : Prop := Claim7.holds Tryd.pinned (.plain (OpenSpec.ofChange memSetsSpec)) memSetsCard

/-- THE SECOND FORM's CARD OF 'turnkeylaw10.CacheFinds'. -/
def cacheFindsUptoCard : Claim7 := { stood := { row := cacheFindsUptoRow, standIns := [], harness := (true, "06054f92ab69c2814009c07d34ee728d2ffa743829302d9416455ff0b7bc7dc4"), looks := true }, kinds := [], alts := [], laidByText := true, laidKinds := [.sentinel, .sentinel, .sentinel, .sentinel, .sentinel], laidTests := true, laidLooks := .later }
def CacheFindsUptoCardSaid : Prop := Claim7.holds Tryd.pinned (.plain (OpenSpec.upto cacheFindsSpec)) cacheFindsUptoCard

/-- THE SECOND FORM's CARD OF 'turnkeylaw10.CacheHits'. -/
def cacheHitsUptoCard : Claim7 := { stood := { row := cacheHitsUptoRow, standIns := [], harness := (true, "06054f92ab69c2814009c07d34ee728d2ffa743829302d9416455ff0b7bc7dc4"), looks := true }, kinds := [], alts := [], laidByText := true, laidKinds := [.sentinel, .sentinel, .sentinel, .sentinel, .sentinel], laidTests := true, laidLooks := .later }
def CacheHitsUptoCardSaid : Prop := Claim7.holds Tryd.pinned (.plain (OpenSpec.upto cacheHitsSpec)) cacheHitsUptoCard

/-- THE SECOND FORM's CARD OF 'turnkeylaw10.CacheEldest'. -/
def cacheEldestUptoCard : Claim7 := { stood := { row := cacheEldestUptoRow, standIns := [], harness := (true, "06054f92ab69c2814009c07d34ee728d2ffa743829302d9416455ff0b7bc7dc4"), looks := true }, kinds := [], alts := [], laidByText := true, laidKinds := [.sentinel, .sentinel, .sentinel, .sentinel, .sentinel, .sentinel, .sentinel, .sentinel, .sentinel, .sentinel, .sentinel, .sentinel], laidTests := true, laidLooks := .later }
def CacheEldestUptoCardSaid : Prop := Claim7.holds Tryd.pinned (.plain (OpenSpec.upto cacheEldestSpec)) cacheEldestUptoCard

/-- THE SECOND FORM's CARD OF 'turnkeylaw10.CacheRoots'. -/
def cacheRootsUptoCard : Claim7 := { stood := { row := cacheRootsUptoRow, standIns := [], harness := (true, "06054f92ab69c2814009c07d34ee728d2ffa743829302d9416455ff0b7bc7dc4"), looks := true }, kinds := [], alts := [], laidByText := true, laidKinds := [.sentinel, .sentinel, .sentinel, .sentinel, .sentinel], laidTests := true, laidLooks := .later }
def CacheRootsUptoCardSaid : Prop := Claim7.holds Tryd.pinned (.plain (OpenSpec.upto cacheRootsSpec)) cacheRootsUptoCard

/-- THE SECOND FORM's CARD OF 'turnkeylaw10.CacheGone'. -/
def cacheGoneUptoCard : Claim7 := { stood := { row := cacheGoneUptoRow, standIns := [], harness := (true, "06054f92ab69c2814009c07d34ee728d2ffa743829302d9416455ff0b7bc7dc4"), looks := true }, kinds := [], alts := [], laidByText := true, laidKinds := [.sentinel, .sentinel, .sentinel, .sentinel, .sentinel], laidTests := true, laidLooks := .later }
def CacheGoneUptoCardSaid : Prop := Claim7.holds Tryd.pinned (.plain (OpenSpec.upto cacheGoneSpec)) cacheGoneUptoCard

/-- THE SECOND FORM's CARD OF 'turnkeylaw11.MemWords'. -/
def memWordsUptoCard : Claim7 := { stood := { row := memWordsUptoRow, standIns := [], harness := (true, "06054f92ab69c2814009c07d34ee728d2ffa743829302d9416455ff0b7bc7dc4"), looks := true }, kinds := [], alts := [], laidByText := true, laidKinds := [.sentinel, .sentinel, .sentinel, .sentinel, .sentinel], laidTests := true, laidLooks := .later }
def MemWordsUptoCardSaid : Prop := Claim7.holds Tryd.pinned (.plain (OpenSpec.upto memWordsSpec)) memWordsUptoCard

/-- THE SECOND FORM's CARD OF 'turnkeylaw11.MemReadOnly'. -/
def memReadOnlyUptoCard : Claim7 := { stood := { row := memReadOnlyUptoRow, standIns := [], harness := (true, "06054f92ab69c2814009c07d34ee728d2ffa743829302d9416455ff0b7bc7dc4"), looks := true }, kinds := [], alts := [], laidByText := true, laidKinds := [.sentinel, .sentinel, .sentinel, .sentinel, .sentinel], laidTests := true, laidLooks := .later }
def MemReadOnlyUptoCardSaid : Prop := Claim7.holds Tryd.pinned (.plain (OpenSpec.upto memReadOnlySpec)) memReadOnlyUptoCard

/-- THE SECOND FORM's CARD OF 'turnkeylaw11.MemStale'. -/
def memStaleUptoCard : Claim7 := { stood := { row := memStaleUptoRow, standIns := [], harness := (true, "06054f92ab69c2814009c07d34ee728d2ffa743829302d9416455ff0b7bc7dc4"), looks := true }, kinds := [], alts := [], laidByText := true, laidKinds := [.sentinel, .sentinel, .sentinel, .sentinel, .sentinel], laidTests := true, laidLooks := .later }
def MemStaleUptoCardSaid : Prop := Claim7.holds Tryd.pinned (.plain (OpenSpec.upto memStaleSpec)) memStaleUptoCard

/-- THE SECOND FORM's CARD OF 'turnkeylaw11.MemSets'. -/
def memSetsUptoCard : Claim7 := { stood := { row := memSetsUptoRow, standIns := [], harness := (true, "06054f92ab69c2814009c07d34ee728d2ffa743829302d9416455ff0b7bc7dc4"), looks := true }, kinds := [], alts := [], laidByText := true, laidKinds := [.sentinel, .sentinel, .sentinel, .sentinel, .sentinel, .sentinel], laidTests := true, laidLooks := .later }
def MemSetsUptoCardSaid : Prop := Claim7.holds Tryd.pinned (.plain (OpenSpec.upto memSetsSpec)) memSetsUptoCard
end Rows
end Go.Proofs.YtedidopkemjgeaaDoor
