import PyProof.Rows.All
import Wide.All
import OpenK.AllK
import Wide.FinOn
import HandS.ForMost
import HandS.ForExc
import HandS.IsInst
import HandS.Codes
import HandS.Conv
import HandS.Zip
import HandS.FStr
import HandS.Property
import HandS.Flow
import HandS.MakeKw
import HandS.WideBits
import HandS.Steps
import HandS.Lambda
import HandS.ExcInit
import KE.GoesEnum
import KE.GoesZip
import KE.KDictZip
import HandS.Style
import KE.KUnpackStar
import HandS.ExcValue
import HandS.ClsMeth
import HandS.Defaults
import HandS.OwnEq
import HandS.MakeKwOnly
import KE.KCallOwn
import HandS.TupAny
import HandS.TryOnly
import KE.SortKeyHeap
import KE.SortData
import KE.KLam
import HandS.SortKw
import KE.KExcInit
import PyProof.ExcBaseAll.LookupError
import PyProof.ExcBaseAll.ArithmeticError
import HandS.Exc
import HandS.ExcOwn
import HandS.ExcCtx
import HandS.SuiteRaise
import HandS.RaiseFrom
import HandS.ExcInitHot
import KE.KExcIs
import HandS.ExcIs
import HandS.ExcField
import HandS.HotCalls
import PyProof.ReprRoads
import HandS.EndTab
import PySem.Challenge.RW_salebids_k01_constants_and_errors
set_option Elab.async false
set_option linter.all false
set_option maxRecDepth 100000
namespace Sb
open PySem PySem.Spec L2

/-! ### data, without the heap -/
inductive Dt where
  | non | bl (b : Bool) | int (i : Int) | str (x : Str) | lst (ds : List Dt) | tup (ds : List Dt)
  | dic (kvs : List (Str × Dt)) | dii (kvs : List (Int × Int)) | obj (C : Addr) (fs : List (Str × Dt))

/-- an exception of the class at C, its dict (if it has one) -/
def ExoAt (H : Hp) (a C : Addr) (dx : Option Addr) (fs : List (Str × V)) : Prop := H a = some (exo a C dx) ∧ ((dx = none ∧ fs = []) ∨ ∃ d, dx = some d ∧ H d = some (exd d fs))
/-- a dict of ints to ints -/
def diK (kvs : List (Int × Int)) : List (Key × V) := kvs.map fun q => (.inl q.1, .int q.2)
mutual
def Dn (K : PySem.W.Frag) (H : Hp) : Dt → V → Prop
  | .non, v => v = .non
  | .bl b, v => v = .bl b
  | .int i, v => v = .int i
  | .str x, v => v = .str x
  | .lst ds, v => ∃ a xs, v = .ref a ∧ H a = some (.lst xs) ∧ DnA K H ds xs
  | .tup ds, v => ∃ a xs, v = .ref a ∧ SqT K H a xs ∧ DnA K H ds xs
  | .dic ds, v => ∃ a kvs, v = .ref a ∧ H a = some (.dK kvs) ∧ DnK K H ds kvs
  | .dii ds, v => ∃ a, v = .ref a ∧ H a = some (.dK (diK ds))
  | .obj C ds, v => ∃ a dx fs, v = .ref a ∧ ExoAt H a C dx fs ∧ DnF K H ds fs
def DnA (K : PySem.W.Frag) (H : Hp) : List Dt → List V → Prop
  | [], vs => vs = []
  | d :: ds, vs => ∃ v r, vs = v :: r ∧ Dn K H d v ∧ DnA K H ds r
def DnK (K : PySem.W.Frag) (H : Hp) : List (Str × Dt) → List (Key × V) → Prop
  | [], vs => vs = []
  | (x, d) :: ds, vs => ∃ v r, vs = (.inr x, v) :: r ∧ Dn K H d v ∧ DnK K H ds r
def DnF (K : PySem.W.Frag) (H : Hp) : List (Str × Dt) → List (Str × V) → Prop
  | [], vs => vs = []
  | (x, d) :: ds, vs => ∃ v r, vs = (x, v) :: r ∧ Dn K H d v ∧ DnF K H ds r
end

/-- what stands in H stands in H' -/
def Ex (H H' : Hp) : Prop :=
  ∀ a o, H a = some o → H' a = some o
theorem Ex.refl (H : Hp) : Ex H H :=
  fun _ _ q => q
theorem Ex.trans {H H1 H2 : Hp} (f : Ex H H1) (g : Ex H1 H2) : Ex H H2 :=
  fun x o q => g x o (f x o q)
/-- not a table of code objects -/
def NT (o : HO) : Prop := ∀ ps, o ≠ .tbl ps
/-- what stands in H stands in H', the tables aside -/
def ExN (H H' : Hp) : Prop :=
  ∀ a o, H a = some o → NT o → H' a = some o
theorem Ex.n {H H' : Hp} (e : Ex H H') : ExN H H' := fun a o h _ => e a o h
instance {H H' : Hp} : Coe (Ex H H') (ExN H H') := ⟨Ex.n⟩
theorem ExN.refl (H : Hp) : ExN H H := fun _ _ q _ => q
theorem ExN.trans {H H1 H2 : Hp} (f : ExN H H1) (g : ExN H1 H2) : ExN H H2 := fun x o q n => g x o (f x o q n) n
theorem nt_lst {xs : List V} : NT (.lst xs) := fun ps z => by cases z
theorem nt_tup {xs : List V} : NT (.tup xs) := fun ps z => by cases z
theorem nt_frz {u : Obj} {o : HO} : NT (.frz u o) := fun ps z => by cases z
theorem nt_dK {xs : List (Key × V)} : NT (.dK xs) := fun ps z => by cases z
theorem nt_xd {fs : List (Str × V)} : NT (.xd fs) := fun ps z => by cases z
theorem nt_ins {C dx : Addr} {fs : List (Str × V)} : NT (.ins C dx fs) := fun ps z => by cases z
theorem nt_exo {e C : Addr} {d : Option Addr} : NT (exo e C d) := fun ps z => by
  have z' : HO.ext _ = HO.tbl ps := z
  cases z'
theorem nt_exd {e : Addr} {fs : List (Str × V)} : NT (exd e fs) := fun ps z => by
  have z' : HO.ext _ = HO.tbl ps := z
  cases z'
theorem ExoAt.mono {H H' : Hp} {a C : Addr} {dx : Option Addr} {fs : List (Str × V)} (h : ExoAt H a C dx fs) (e : ExN H H') : ExoAt H' a C dx fs := ⟨e _ _ h.1 nt_exo, h.2.elim .inl fun ⟨d, e1, e2⟩ => .inr ⟨d, e1, e _ _ e2 nt_exd⟩⟩
/-- what the texts say of the module's written part, and of the tables of code objects -/
structure KX where
  fr : PySem.W.Frag
  tb : List (Addr × Str)
instance : Coe KX PySem.W.Frag := ⟨KX.fr⟩
abbrev Tb (K : KX) (H : Hp) : Prop := LamX.Tabs K.tb H
theorem ExN.sqL {K : PySem.W.Frag} {H H' : Hp} (e : ExN H H') {a : Addr} {xs : List V} (h : SqL K H a xs) : SqL K H' a xs := by
  rcases h with (h | ⟨o, h⟩) | h
  · exact .inl (.inl (e _ _ h nt_lst))
  · exact .inl (.inr ⟨o, e _ _ h nt_frz⟩)
  · exact .inr h
theorem ExN.sqT {K : PySem.W.Frag} {H H' : Hp} (e : ExN H H') {a : Addr} {xs : List V} (h : SqT K H a xs) : SqT K H' a xs := by
  rcases h with (h | ⟨o, h⟩) | h
  · exact .inl (.inl (e _ _ h nt_tup))
  · exact .inl (.inr ⟨o, e _ _ h nt_frz⟩)
  · exact .inr h
theorem Ex.sqL {K : PySem.W.Frag} {H H' : Hp} (e : Ex H H') {a : Addr} {xs : List V} (h : SqL K H a xs) : SqL K H' a xs := e.n.sqL h
theorem Ex.sqT {K : PySem.W.Frag} {H H' : Hp} (e : Ex H H') {a : Addr} {xs : List V} (h : SqT K H a xs) : SqT K H' a xs := e.n.sqT h
mutual
theorem Dn.mono {K : PySem.W.Frag} {H H' : Hp} (e : ExN H H') : ∀ (d : Dt) {v : V}, Dn K H d v → Dn K H' d v
  | .non, _, h => h
  | .bl _, _, h => h
  | .int _, _, h => h
  | .str _, _, h => h
  | .lst ds, _, h => by
    obtain ⟨a, xs, rfl, h1, h2⟩ := h
    exact ⟨a, xs, rfl, e _ _ h1 nt_lst, DnA.mono e ds h2⟩
  | .tup ds, _, h => by
    obtain ⟨a, xs, rfl, h1, h2⟩ := h
    exact ⟨a, xs, rfl, e.sqT h1, DnA.mono e ds h2⟩
  | .dic ds, _, h => by
    obtain ⟨a, xs, rfl, h1, h2⟩ := h
    exact ⟨a, xs, rfl, e _ _ h1 nt_dK, DnK.mono e ds h2⟩
  | .dii ds, _, h => by
    obtain ⟨a, rfl, h1⟩ := h
    exact ⟨a, rfl, e _ _ h1 nt_dK⟩
  | .obj C ds, _, h => by
    obtain ⟨a, dx, xs, rfl, h1, h2⟩ := h
    exact ⟨a, dx, xs, rfl, h1.mono e, DnF.mono e ds h2⟩
theorem DnA.mono {K : PySem.W.Frag} {H H' : Hp} (e : ExN H H') : ∀ (d : List Dt) {v : List V}, DnA K H d v → DnA K H' d v
  | [], _, h => h
  | d :: ds, _, h => by
    obtain ⟨v, r, rfl, h1, h2⟩ := h
    exact ⟨v, r, rfl, Dn.mono e d h1, DnA.mono e ds h2⟩
theorem DnK.mono {K : PySem.W.Frag} {H H' : Hp} (e : ExN H H') : ∀ (d : List (Str × Dt)) {v : List (Key × V)}, DnK K H d v → DnK K H' d v
  | [], _, h => h
  | (x, d) :: ds, _, h => by
    obtain ⟨v, r, rfl, h1, h2⟩ := h
    exact ⟨v, r, rfl, Dn.mono e d h1, DnK.mono e ds h2⟩
theorem DnF.mono {K : PySem.W.Frag} {H H' : Hp} (e : ExN H H') : ∀ (d : List (Str × Dt)) {v : List (Str × V)}, DnF K H d v → DnF K H' d v
  | [], _, h => h
  | (x, d) :: ds, _, h => by
    obtain ⟨v, r, rfl, h1, h2⟩ := h
    exact ⟨v, r, rfl, Dn.mono e d h1, DnF.mono e ds h2⟩
end
end Sb

set_option Elab.async false
set_option linter.all false
set_option maxRecDepth 100000
set_option autoImplicit false
namespace Sb
open PySem PySem.Spec L2
variable {K : PySem.W.Frag}

theorem DnA.len : ∀ {ds : List Dt} {vs : List V} {H : Hp}, DnA K H ds vs → vs.length = ds.length
  | [], _, _, h => by cases (show _ = [] from h); rfl
  | d :: ds, _, _, h => by
    obtain ⟨v, r, rfl, _, h2⟩ := h
    rw [List.length_cons, List.length_cons, DnA.len h2]
theorem DnA.get : ∀ {ds : List Dt} {vs : List V} {H : Hp} {i : Nat} {d : Dt}, DnA K H ds vs → ds[i]? = some d → ∃ v, vs[i]? = some v ∧ Dn K H d v
  | [], _, _, _, _, _, e => by simp at e
  | d :: ds, _, _, 0, _, h, e => by
    obtain ⟨v, r, rfl, h1, _⟩ := h
    cases (show some d = some _ from e)
    exact ⟨v, rfl, h1⟩
  | d :: ds, _, _, i + 1, _, h, e => by
    obtain ⟨v, r, rfl, _, h2⟩ := h
    exact DnA.get (i := i) h2 e
theorem DnA.app : ∀ {ds es : List Dt} {vs ws : List V} {H : Hp}, DnA K H ds vs → DnA K H es ws → DnA K H (ds ++ es) (vs ++ ws)
  | [], _, _, _, _, h, g => by cases (show _ = [] from h); exact g
  | d :: ds, _, _, _, _, h, g => by
    obtain ⟨v, r, rfl, h1, h2⟩ := h
    exact ⟨v, _, rfl, h1, DnA.app h2 g⟩
theorem DnA.one {d : Dt} {v : V} {H : Hp} (h : Dn K H d v) : DnA K H [d] [v] := ⟨v, [], rfl, h, rfl⟩
theorem DnA.tk : ∀ {ds : List Dt} {vs : List V} {H : Hp} (n : Nat), DnA K H ds vs → DnA K H (ds.take n) (vs.take n)
  | [], _, _, n, h => by cases (show _ = [] from h); rw [List.take_nil, List.take_nil]; exact rfl
  | d :: ds, _, _, 0, h => rfl
  | d :: ds, _, _, n + 1, h => by
    obtain ⟨v, r, rfl, h1, h2⟩ := h
    exact ⟨v, _, rfl, h1, DnA.tk n h2⟩
theorem DnA.dp : ∀ {ds : List Dt} {vs : List V} {H : Hp} (n : Nat), DnA K H ds vs → DnA K H (ds.drop n) (vs.drop n)
  | [], _, _, n, h => by cases (show _ = [] from h); rw [List.drop_nil, List.drop_nil]; exact rfl
  | d :: ds, _, _, 0, h => h
  | d :: ds, _, _, n + 1, h => by
    obtain ⟨v, r, rfl, h1, h2⟩ := h
    exact DnA.dp n h2

/-! ### slots -/
inductive Sl where
  | un | da (d : Dt) | ow (p : Addr) (ds : List Dt) | od (p : Addr) (kvs : List (Str × Dt)) | oi (p : Addr) (kvs : List (Int × Int)) | sr (p : Addr) | rf (p : Addr) | xc (a p : Addr) (f : Str) (d : Dt)
def Sl.ad : Sl → Option Addr
  | .ow p _ => some p
  | .od p _ => some p
  | .oi p _ => some p
  | .sr p => some p
  | _ => none
def Sl.sd : Sl → Option Addr
  | .sr p => some p
  | _ => none
def ads (G : List Sl) : List Addr := G.filterMap Sl.ad
def srs (G : List Sl) : List Addr := G.filterMap Sl.sd
def hid (H : Hp) (P : List Addr) : Hp := fun a => if a ∈ P then none else H a
theorem hid_out {H : Hp} {P : List Addr} {a : Addr} (h : a ∉ P) : hid H P a = H a := if_neg h
theorem hid_in {H : Hp} {P : List Addr} {a : Addr} (h : a ∈ P) : hid H P a = none := if_pos h
theorem hid_some {H : Hp} {P : List Addr} {a : Addr} {o : HO} (h : hid H P a = some o) : a ∉ P ∧ H a = some o := by
  by_cases q : a ∈ P
  · rw [hid_in q] at h; cases h
  · rw [hid_out q] at h; exact ⟨q, h⟩
theorem hid_ex {H : Hp} (P : List Addr) : Ex (hid H P) H := fun a o h => (hid_some h).2
theorem hid_subS {H : Hp} {P P' : List Addr} (h : ∀ a ∈ P', a ∈ P) : Ex (hid H P) (hid H P') := fun a o e => by
  obtain ⟨h1, h2⟩ := hid_some e
  rw [hid_out fun z => h1 (h a z)]
  exact h2
theorem hid_sub {H : Hp} {P P' : List Addr} (h : ∀ a ∈ P', a ∈ P) : ExN (hid H P) (hid H P') := (hid_subS h).n
theorem hid_monoS {H H' : Hp} {P : List Addr} (e : ∀ a o, a ∉ P → H a = some o → H' a = some o) : Ex (hid H P) (hid H' P) := fun a o h => by
  obtain ⟨h1, h2⟩ := hid_some h
  rw [hid_out h1]
  exact e a o h1 h2
theorem hid_mono {H H' : Hp} {P : List Addr} (e : ∀ a o, a ∉ P → H a = some o → H' a = some o) : ExN (hid H P) (hid H' P) := (hid_monoS e).n
theorem hid_monoN {H H' : Hp} {P : List Addr} (e : ∀ a o, a ∉ P → H a = some o → NT o → H' a = some o) : ExN (hid H P) (hid H' P) := fun a o h n => by
  obtain ⟨h1, h2⟩ := hid_some h
  rw [hid_out h1]
  exact e a o h1 h2 n
theorem hid_new {H : Hp} {P : List Addr} {p : Addr} {o : HO} (h : H p = none) : ExN (hid H P) (hid (upd H p o) P) := hid_mono fun a u _ e => by
  rw [upd_ne (ne_of_none e h)]
  exact e
theorem hid_up {H : Hp} {P : List Addr} {p : Addr} {o : HO} (h : p ∈ P) : ExN (hid H P) (hid (upd H p o) P) := hid_mono fun a u ha e => by
  rw [upd_ne fun z => ha (by rw [z]; exact h)]
  exact e

def SrcAt (H : Hp) (p : Addr) : Prop := ∃ x y z : Int, H p = some (.lst [.int x, .int y, .int z])
def SlOk (K : PySem.W.Frag) (P : List Addr) (H : Hp) (o : Option V) : Sl → Prop
  | .un => True
  | .da d => ∃ v, o = some v ∧ Dn K (hid H P) d v
  | .ow p ds => o = some (.ref p) ∧ ∃ xs, H p = some (.lst xs) ∧ DnA K (hid H P) ds xs
  | .od p ds => o = some (.ref p) ∧ ∃ xs, H p = some (.dK xs) ∧ DnK K (hid H P) ds xs
  | .oi p ds => o = some (.ref p) ∧ H p = some (.dK (diK ds))
  | .sr p => o = some (.ref p) ∧ SrcAt H p
  | .rf p => o = some (.ref p)
  | .xc a p f d => o = some (.ref a) ∧ ∃ v, hid H P p = some (.xd [(f, v)]) ∧ Dn K (hid H P) d v
abbrev Ow := List (Addr × HO)
def pof (O : Ow) (G : List Sl) : List Addr := O.map (·.1) ++ ads G
structure Hold (K : KX) (B : Hp) (S : List Addr) (O : Ow) (G : List Sl) (H : Hp) (σ : St) : Prop where
  len : σ.length = G.length
  sl : ∀ (i : Nat) (s : Sl), G[i]? = some s → ∃ o, σ[i]? = some o ∧ SlOk K (pof O G) H o s
  nd : (pof O G).Nodup
  ss : srs G = S
  ex : ∀ a o, B a = some o → NT o → a ∉ S → hid H (pof O G) a = some o
  oo : ∀ q ∈ O, H q.1 = some q.2
  on : ∀ q ∈ O, NT q.2
  tb : Tb K H
abbrev Gr (P : List Addr) (H H' : Hp) : Prop := ExN (hid H P) (hid H' P)
theorem Gr.refl (P : List Addr) (H : Hp) : Gr P H H := ExN.refl _
theorem Gr.trans {P : List Addr} {H H1 H2 : Hp} (a : Gr P H H1) (b : Gr P H1 H2) : Gr P H H2 := ExN.trans a b
/-- the tables stand as long as what changes is none, and no code object -/
theorem tabs_past {T : List (Addr × Str)} {H H' : Hp} {p : Addr} (t : LamX.Tabs T H) (h1 : ∀ ps, H p ≠ some (.tbl ps)) (h2 : ∀ q, H p ≠ some (LamX.CodeO p q)) (g : ∀ a o, a ≠ p → H a = some o → H' a = some o) : LamX.Tabs T H' := fun r hr => by
  obtain ⟨ps, e1, e2, e3⟩ := t r hr
  refine ⟨ps, g _ _ (fun z => h1 ps (by rw [← z]; exact e1)) e1, e2, fun pos cv hc => ?_⟩
  obtain ⟨c, ec, hc'⟩ := e3 pos cv hc
  exact ⟨c, ec, g _ _ (fun z => h2 r.2 (by rw [← z]; exact hc')) hc'⟩
theorem not_tbl {H : Hp} {p : Addr} {o : HO} (e : H p = some o) (n : NT o) : ∀ ps, H p ≠ some (.tbl ps) := fun ps z => by
  rw [e] at z
  exact n ps (Option.some.inj z)
/-- not a code object -/
def NC (o : HO) : Prop := ∀ P, o ≠ .ext P
theorem not_cod {H : Hp} {p : Addr} {o : HO} (e : H p = some o) (n : NC o) : ∀ q, H p ≠ some (LamX.CodeO p q) := fun q z => by
  rw [e] at z
  exact n _ (Option.some.inj z)
theorem nc_lst {xs : List V} : NC (.lst xs) := fun ps z => by cases z
theorem nc_ins {C dx : Addr} {fs : List (Str × V)} : NC (.ins C dx fs) := fun ps z => by cases z
theorem nc_dK {xs : List (Key × V)} : NC (.dK xs) := fun ps z => by cases z

section
variable {K : KX} {B : Hp} {S : List Addr} {O : Ow} {G : List Sl} {H H' : Hp} {σ : St}
theorem mem_ads {i : Nat} {s : Sl} {p : Addr} (h : G[i]? = some s) (e : s.ad = some p) : p ∈ ads G := List.mem_filterMap.mpr ⟨s, List.mem_of_getElem? h, e⟩
theorem Hold.tracked (h : Hold K B S O G H σ) {p : Addr} (hp : p ∈ pof O G) : ∃ o, H p = some o ∧ NT o := by
  rcases List.mem_append.mp hp with z | z
  · obtain ⟨q, hq, rfl⟩ := List.mem_map.mp z
    exact ⟨_, h.oo q hq, h.on q hq⟩
  · obtain ⟨s, hs, e⟩ := List.mem_filterMap.mp z
    obtain ⟨i, hi⟩ := List.mem_iff_getElem?.mp hs
    obtain ⟨o, _, hk⟩ := h.sl i s hi
    cases s with
    | un => cases e
    | rf q => cases e
    | da d => cases e
    | ow q ds =>
      cases e
      obtain ⟨_, xs, h1, _⟩ := hk
      exact ⟨_, h1, nt_lst⟩
    | od q ds =>
      cases e
      obtain ⟨_, xs, h1, _⟩ := hk
      exact ⟨_, h1, nt_dK⟩
    | xc z q f dt => cases e
    | oi q ds =>
      cases e
      exact ⟨_, hk.2, nt_dK⟩
    | sr q =>
      cases e
      obtain ⟨_, x, y, z, h1⟩ := hk
      exact ⟨_, h1, nt_lst⟩
theorem Hold.fresh (h : Hold K B S O G H σ) {p : Addr} (hp : H p = none) : p ∉ pof O G := fun z => by
  obtain ⟨o, e, _⟩ := h.tracked z
  rw [hp] at e
  cases e
/-- the heap has grown; what is own stays, a source may have turned -/
theorem Hold.grow (h : Hold K B S O G H σ) (g : Gr (pof O G) H H') (ho : ∀ a ∈ pof O G, a ∉ S → H' a = H a) (hs : ∀ a ∈ S, SrcAt H a → SrcAt H' a) (hS : ∀ q ∈ O, q.1 ∉ S) (hA : ∀ (i : Nat) (s : Sl) (p : Addr), G[i]? = some s → s.ad = some p → s.sd = none → p ∉ S) (ht : Tb K H') : Hold K B S O G H' σ where
  len := h.len
  sl := fun i s e => by
    obtain ⟨o, h1, h2⟩ := h.sl i s e
    refine ⟨o, h1, ?_⟩
    cases s with
    | un => trivial
    | rf q => exact h2
    | da d =>
      obtain ⟨v, e1, e2⟩ := h2
      exact ⟨v, e1, Dn.mono g d e2⟩
    | ow p ds =>
      obtain ⟨e1, xs, e2, e3⟩ := h2
      refine ⟨e1, xs, ?_, DnA.mono g ds e3⟩
      rw [ho p (List.mem_append_right _ (mem_ads e rfl)) (hA i _ p e rfl rfl)]
      exact e2
    | od p ds =>
      obtain ⟨e1, xs, e2, e3⟩ := h2
      refine ⟨e1, xs, ?_, DnK.mono g ds e3⟩
      rw [ho p (List.mem_append_right _ (mem_ads e rfl)) (hA i _ p e rfl rfl)]
      exact e2
    | xc z p f dt =>
      obtain ⟨e1, xs, e2, e3⟩ := h2
      exact ⟨e1, xs, g _ _ e2 nt_xd, Dn.mono g dt e3⟩
    | oi p ds =>
      obtain ⟨e1, e2⟩ := h2
      refine ⟨e1, ?_⟩
      rw [ho p (List.mem_append_right _ (mem_ads e rfl)) (hA i _ p e rfl rfl)]
      exact e2
    | sr p =>
      obtain ⟨e1, e2⟩ := h2
      refine ⟨e1, hs p ?_ e2⟩
      rw [← h.ss]
      exact List.mem_filterMap.mpr ⟨_, List.mem_of_getElem? e, rfl⟩
  nd := h.nd
  ss := h.ss
  ex := fun a o e nt n => g a o (h.ex a o e nt n) nt
  on := h.on
  tb := ht
  oo := fun q hq => by
    rw [ho q.1 (List.mem_append_left _ (List.mem_map_of_mem hq)) (hS q hq)]
    exact h.oo q hq
theorem Hold.srcIn (h : Hold K B S O G H σ) {a : Addr} (ha : a ∈ S) : ∃ i : Nat, G[i]? = some (.sr a) := by
  rw [← h.ss] at ha
  obtain ⟨s, hs, e⟩ := List.mem_filterMap.mp ha
  obtain ⟨i, hi⟩ := List.mem_iff_getElem?.mp hs
  cases s with
  | sr q => cases e; exact ⟨i, hi⟩
  | un => cases e
  | rf q => cases e
  | da d => cases e
  | ow q ds => cases e
  | od q ds => cases e
  | xc z q f dt => cases e
  | oi q ds => cases e
theorem nodup_ads {G : List Sl} : (ads G).Nodup → ∀ {i j : Nat} {s t : Sl} {p : Addr}, G[i]? = some s → G[j]? = some t → s.ad = some p → t.ad = some p → i = j := by
  induction G with
  | nil => intro _ i j s t p h; simp at h
  | cons a G ih =>
    intro nd i j s t p hi hj es et
    have key : ∀ {l : Nat} {u : Sl}, G[l]? = some u → u.ad = some p → a.ad = some p → False := fun {l u} hl eu ea => by
      have n1 : (ads (a :: G)) = p :: ads G := by unfold ads; rw [List.filterMap_cons, ea]
      rw [n1] at nd
      exact (List.nodup_cons.mp nd).1 (mem_ads hl eu)
    have nd' : (ads G).Nodup := by
      cases ea : a.ad with
      | none =>
        have n1 : (ads (a :: G)) = ads G := by unfold ads; rw [List.filterMap_cons, ea]
        rw [n1] at nd
        exact nd
      | some q =>
        have n1 : (ads (a :: G)) = q :: ads G := by unfold ads; rw [List.filterMap_cons, ea]
        rw [n1] at nd
        exact (List.nodup_cons.mp nd).2
    cases i with
    | zero =>
      cases j with
      | zero => rfl
      | succ j =>
        have hi : a = s := Option.some.inj hi
        subst hi
        exact (key (l := j) hj et es).elim
    | succ i =>
      cases j with
      | zero =>
        have hj : a = t := Option.some.inj hj
        subst hj
        exact (key (l := i) hi es et).elim
      | succ j => rw [ih nd' (i := i) (j := j) hi hj es et]
theorem Hold.ndA (h : Hold K B S O G H σ) : (ads G).Nodup := (List.nodup_append.mp h.nd).2.1
theorem Hold.OnotS (h : Hold K B S O G H σ) : ∀ q ∈ O, q.1 ∉ S := fun q hq z => by
  obtain ⟨i, hi⟩ := h.srcIn z
  exact (List.nodup_append.mp h.nd).2.2 q.1 (List.mem_map_of_mem hq) q.1 (mem_ads hi rfl) rfl
theorem Hold.AnotS (h : Hold K B S O G H σ) : ∀ (i : Nat) (s : Sl) (p : Addr), G[i]? = some s → s.ad = some p → s.sd = none → p ∉ S := fun i s p e e1 e2 z => by
  obtain ⟨j, hj⟩ := h.srcIn z
  have := nodup_ads h.ndA e hj e1 rfl
  subst this
  rw [e] at hj
  cases hj
  cases e2
/-- the heap has grown, nothing that stood has changed but tables -/
theorem Hold.moreN (h : Hold K B S O G H σ) (g : ExN H H') (ht : Tb K H') : Hold K B S O G H' σ := by
  have eq : ∀ a ∈ pof O G, H' a = H a := fun a ha => by
    obtain ⟨o, e, n⟩ := h.tracked ha
    rw [e, g a o e n]
  exact h.grow (hid_monoN fun a o _ e n => g a o e n) (fun a ha _ => eq a ha) (fun a _ ⟨x, y, z, e⟩ => ⟨x, y, z, g _ _ e nt_lst⟩) h.OnotS h.AnotS ht
theorem Hold.more (h : Hold K B S O G H σ) (g : Ex H H') : Hold K B S O G H' σ := h.moreN g.n (h.tb.ext g)
theorem Hold.subN (h : Hold K B S O G H σ) (p : Addr) (hp : p ∈ S) (g : ∀ a o, a ≠ p → H a = some o → NT o → H' a = some o) (hs : SrcAt H' p) (ht : Tb K H') : Hold K B S O G H' σ := by
  have hpP : p ∈ pof O G := by
    obtain ⟨i, hi⟩ := h.srcIn hp
    exact List.mem_append_right _ (mem_ads hi rfl)
  have eq : ∀ a ∈ pof O G, a ≠ p → H' a = H a := fun a ha n => by
    obtain ⟨o, e, nt⟩ := h.tracked ha
    rw [e, g a o n e nt]
  refine h.grow (hid_monoN fun a o n e nt => g a o (fun z => n (by rw [z]; exact hpP)) e nt) (fun a ha n => eq a ha fun z => n (by rw [z]; exact hp)) (fun a _ ⟨x, y, z, e⟩ => ?_) h.OnotS h.AnotS ht
  by_cases n : a = p
  · rw [n]; exact hs
  · exact ⟨x, y, z, g _ _ n e nt_lst⟩
theorem Hold.srcHere (h : Hold K B S O G H σ) {p : Addr} (hp : p ∈ S) : SrcAt H p := by
  obtain ⟨i, hi⟩ := h.srcIn hp
  obtain ⟨_, _, _, e⟩ := h.sl i _ hi
  exact e
theorem Hold.sub (h : Hold K B S O G H σ) (p : Addr) (hp : p ∈ S) (g : ∀ a o, a ≠ p → H a = some o → H' a = some o) (hs : SrcAt H' p) : Hold K B S O G H' σ := by
  obtain ⟨x, y, z, e⟩ := h.srcHere hp
  exact h.subN p hp (fun a o n e _ => g a o n e) hs (tabs_past h.tb (not_tbl e nt_lst) (not_cod e nc_lst) g)
/-- another base -/
theorem Hold.rebase (h : Hold K B S O G H σ) : Hold K (hid H (pof O G)) S O G H σ := ⟨h.len, h.sl, h.nd, h.ss, fun a o e _ _ => e, h.oo, h.on, h.tb⟩
theorem Hold.based {B' : Hp} (h : Hold K B' S O G H σ) (e : ∀ a o, B a = some o → NT o → a ∉ S → B' a = some o) : Hold K B S O G H σ := ⟨h.len, h.sl, h.nd, h.ss, fun a o e1 nt n => h.ex a o (e a o e1 nt n) nt n, h.oo, h.on, h.tb⟩
theorem Hold.notS {a : Addr} {o : HO} (h : Hold K B S O G H σ) (e : hid H (pof O G) a = some o) : a ∉ S := fun z => by
  obtain ⟨i, hi⟩ := h.srcIn z
  exact (hid_some e).1 (List.mem_append_right _ (mem_ads hi rfl))
/-- a slot that is not own takes data -/
theorem Hold.set (h : Hold K B S O G H σ) {i : Nat} {s : Sl} {d : Dt} {v : V} (hi : G[i]? = some s) (hs : s.ad = none) (hd : Dn K (hid H (pof O G)) d v) : Hold K B S O (G.set i (.da d)) H (σ.set i (some v)) := by
  have hlt : i < G.length := (List.getElem?_eq_some_iff.mp hi).1
  have fm : ∀ (f : Sl → Option Addr), f s = none → f (.da d) = none → (G.set i (.da d)).filterMap f = G.filterMap f := fun f h1 h2 => by
    have e1 : G = G.take i ++ s :: G.drop (i + 1) := by
      have : G[i] = s := by rw [List.getElem?_eq_getElem hlt] at hi; exact Option.some.inj hi
      rw [← this, ← List.drop_eq_getElem_cons hlt, List.take_append_drop]
    have e2 : G.set i (.da d) = G.take i ++ Sl.da d :: G.drop (i + 1) := List.set_eq_take_append_cons_drop .. |>.trans (if_pos hlt)
    rw [e2]
    conv => rhs; rw [e1]
    rw [List.filterMap_append, List.filterMap_append, List.filterMap_cons, List.filterMap_cons, h1, h2]
  have sd : s.sd = none := by
    cases s <;> first | rfl | cases hs
  have ea : ads (G.set i (.da d)) = ads G := fm _ hs rfl
  have ep : pof O (G.set i (.da d)) = pof O G := by unfold pof; rw [ea]
  refine ⟨by rw [List.length_set, List.length_set]; exact h.len, fun j t e => ?_, by rw [ep]; exact h.nd, (fm _ sd rfl).trans h.ss, by rw [ep]; exact h.ex, h.oo, h.on, h.tb⟩
  rw [ep]
  by_cases hj : j = i
  · subst hj
    rw [List.getElem?_set_self hlt] at e
    cases e
    exact ⟨some v, List.getElem?_set_self (by rw [h.len]; exact hlt), v, rfl, hd⟩
  · rw [List.getElem?_set_ne (Ne.symm hj)] at e
    obtain ⟨o, h1, h2⟩ := h.sl j t e
    exact ⟨o, by rw [List.getElem?_set_ne (Ne.symm hj)]; exact h1, h2⟩
end
end Sb

set_option Elab.async false
set_option linter.all false
set_option maxRecDepth 100000
set_option autoImplicit false
namespace Sb
open PySem PySem.Spec L2
variable {K : KX} {S : List Addr} {G : List Sl}

def Trk (P : List Addr) (H : Hp) : Prop := ∀ q ∈ P, ∃ o, H q = some o ∧ NT o
theorem Trk.out {P : List Addr} {H : Hp} (t : Trk P H) {p : Addr} (h : H p = none) : p ∉ P := fun z => by
  obtain ⟨o, e, _⟩ := t p z
  rw [h] at e
  cases e
theorem Trk.exN {P : List Addr} {H H' : Hp} (t : Trk P H) (e : ExN H H') : Trk P H' := fun q hq => by
  obtain ⟨o, h, n⟩ := t q hq
  exact ⟨o, e q o h n, n⟩
theorem Trk.ex {P : List Addr} {H H' : Hp} (t : Trk P H) (e : Ex H H') : Trk P H' := t.exN e.n
theorem Hold.trk {B : Hp} {O : Ow} {H : Hp} {σ : St} (h : Hold K B S O G H σ) : Trk (pof O G) H := fun q hq => h.tracked hq

/-- an expression, a test, arguments: they give data with this property, and leave the state as it is told -/
def Eg (K : KX) (S : List Addr) (G : List Sl) (te : TE) (post : Dt → Prop) : Prop := ∀ B O σ H, Hold K B S O G H σ → ∀ Q : VK,
  (∀ v H' d, post d → Hold K B S O G H' σ → Gr (pof O G) H H' → Dn K (hid H' (pof O G)) d v → Q v H') → te σ H Q
def Et (K : KX) (S : List Addr) (G : List Sl) (tt : TT) (post : Bool → Prop) : Prop := ∀ B O σ H, Hold K B S O G H σ → ∀ Q : Bool → Hp → Prop,
  (∀ b H', post b → Hold K B S O G H' σ → Gr (pof O G) H H' → Q b H') → tt σ H Q
def Ea (K : KX) (S : List Addr) (G : List Sl) (ta : TA) (post : List Dt → Prop) : Prop := ∀ B O σ H, Hold K B S O G H σ → ∀ Q : List V → Hp → Prop,
  (∀ vs H' ds, post ds → Hold K B S O G H' σ → Gr (pof O G) H H' → DnA K (hid H' (pof O G)) ds vs → Q vs H') → ta σ H Q
/-- one-place, two-place operations on values -/
def R1v (K : PySem.W.Frag) (r : V → Hp → VK → Prop) (x : Dt) (z : Dt → Prop) : Prop := ∀ P H v (Q : VK), Trk P H → Dn K (hid H P) x v → (∀ u H' d, z d → Ex H H' → Dn K (hid H' P) d u → Q u H') → r v H Q
def R2v (K : PySem.W.Frag) (r : R2) (x y : Dt) (z : Dt → Prop) : Prop := ∀ P H v w (Q : VK), Trk P H → Dn K (hid H P) x v → Dn K (hid H P) y w → (∀ u H' d, z d → Ex H H' → Dn K (hid H' P) d u → Q u H') → r v w H Q
def Rcv (K : PySem.W.Frag) (r : List V → Hp → VK → Prop) (xs : List Dt) (z : Dt → Prop) : Prop := ∀ P H vs (Q : VK), Trk P H → DnA K (hid H P) xs vs → (∀ u H' d, z d → Ex H H' → Dn K (hid H' P) d u → Q u H') → r vs H Q

section
variable {te ta tb tc : TE} {tt tu : TT} {tA tB : TA}
theorem eg_imp {p q : Dt → Prop} (h : Eg K S G te p) (i : ∀ d, p d → q d) : Eg K S G te q := fun B O σ H hh Q k => h B O σ H hh Q fun v H' d pd => k v H' d (i d pd)
theorem et_imp {p q : Bool → Prop} (h : Et K S G tt p) (i : ∀ d, p d → q d) : Et K S G tt q := fun B O σ H hh Q k => h B O σ H hh Q fun v H' pd => k v H' (i v pd)
theorem eg_var {i : Nat} {d : Dt} (h : G[i]? = some (.da d)) : Eg K S G (tVar i) (· = d) := fun B O σ H hh Q k => by
  obtain ⟨o, e, v, rfl, hd⟩ := hh.sl i _ h
  exact ⟨v, e, k v H d rfl hh (Gr.refl _ _) hd⟩
theorem eg_c {d : Dt} {v : V} (h : ∀ H, Dn K H d v) : Eg K S G (tC v) (· = d) := fun B O σ H hh Q k => k v H d rfl hh (Gr.refl _ _) (h _)
theorem eg_int {i : Int} : Eg K S G (tC (.int i)) (· = .int i) := eg_c fun _ => rfl
theorem eg_str {i : Str} : Eg K S G (tC (.str i)) (· = .str i) := eg_c fun _ => rfl
theorem eg_bl {i : Bool} : Eg K S G (tC (.bl i)) (· = .bl i) := eg_c fun _ => rfl
theorem eg_non : Eg K S G (tC .non) (· = .non) := eg_c fun _ => rfl
theorem eg_op {r : R2} {px py pz : Dt → Prop} (ha : Eg K S G ta px) (hb : Eg K S G tb py) (hr : ∀ x y, px x → py y → R2v K r x y pz) : Eg K S G (tOp r ta tb) pz := fun B O σ H hh Q k =>
  ha B O σ H hh _ fun v H1 x hx h1 g1 d1 => hb B O σ H1 h1 _ fun w H2 y hy h2 g2 d2 => hr x y hx hy _ H2 v w _ h2.trk (Dn.mono g2 x d1) d2 fun u H3 d hz e3 d3 =>
    k u H3 d hz (h2.more e3) ((g1.trans g2).trans (hid_mono fun a o _ e => e3 a o e)) d3
theorem ea_nil : Ea K S G tNil (· = []) := fun B O σ H hh Q k => k [] H [] rfl hh (Gr.refl _ _) rfl
theorem ea_cons {px : Dt → Prop} {py pz : List Dt → Prop} (ha : Eg K S G te px) (hb : Ea K S G tA py) (h : ∀ x y, px x → py y → pz (x :: y)) : Ea K S G (tCons te tA) pz := fun B O σ H hh Q k =>
  ha B O σ H hh _ fun v H1 x hx h1 g1 d1 => hb B O σ H1 h1 _ fun w H2 y hy h2 g2 d2 => k (v :: w) H2 (x :: y) (h x y hx hy) h2 (g1.trans g2) ⟨v, w, rfl, Dn.mono g2 x d1, d2⟩
theorem eg_cb {r : List V → Hp → VK → Prop} {px : List Dt → Prop} {pz : Dt → Prop} (ha : Ea K S G tA px) (hr : ∀ x, px x → Rcv K r x pz) : Eg K S G (tCB r tA) pz := fun B O σ H hh Q k =>
  ha B O σ H hh _ fun v H1 x hx h1 g1 d1 => hr x hx _ H1 v _ h1.trk d1 fun u H3 d hz e3 d3 =>
    k u H3 d hz (h1.more e3) (g1.trans (hid_mono fun a o _ e => e3 a o e)) d3
theorem new_ex {H : Hp} {p : Addr} {o : HO} (h : H p = none) : Ex H (upd H p o) := fun a u e => by
  rw [upd_ne (ne_of_none e h)]
  exact e
theorem new_lst {P : List Addr} {H : Hp} {p : Addr} {ds : List Dt} {xs : List V} (t : Trk P H) (h : H p = none) (d : DnA K (hid H P) ds xs) : Dn K (hid (upd H p (.lst xs)) P) (.lst ds) (.ref p) :=
  ⟨p, xs, rfl, by rw [hid_out (t.out h)]; exact upd_same, DnA.mono (hid_new h) ds d⟩
theorem new_tup {P : List Addr} {H : Hp} {p : Addr} {ds : List Dt} {xs : List V} (t : Trk P H) (h : H p = none) (d : DnA K (hid H P) ds xs) : Dn K (hid (upd H p (.tup xs)) P) (.tup ds) (.ref p) :=
  ⟨p, xs, rfl, SqT.of (by rw [hid_out (t.out h)]; exact upd_same), DnA.mono (hid_new h) ds d⟩
theorem len_le {P : List Addr} {H : Hp} {ds : List Dt} {xs : List V} (d : DnA K (hid H P) ds xs) (h : ds.length ≤ 100000) : xs.length ≤ sizeLine := by
  rw [DnA.len d]
  exact Nat.le_trans h (by decide)
theorem eg_tup {px : List Dt → Prop} {pz : Dt → Prop} (ha : Ea K S G tA px) (h : ∀ ds, px ds → ds.length ≤ 100000 ∧ pz (.tup ds)) : Eg K S G (tTup tA) pz := fun B O σ H hh Q k =>
  ha B O σ H hh _ fun vs H1 ds hx h1 g1 d1 => ⟨len_le d1 (h ds hx).1, fun p hp => k _ _ _ (h ds hx).2 (h1.more (new_ex hp)) (g1.trans (hid_new hp)) (new_tup h1.trk hp d1)⟩
theorem eg_lst {px : List Dt → Prop} {pz : Dt → Prop} (ha : Ea K S G tA px) (h : ∀ ds, px ds → ds.length ≤ 100000 ∧ pz (.lst ds)) : Eg K S G (tLst tA) pz := fun B O σ H hh Q k =>
  ha B O σ H hh _ fun vs H1 ds hx h1 g1 d1 => ⟨len_le d1 (h ds hx).1, fun p hp => k _ _ _ (h ds hx).2 (h1.more (new_ex hp)) (g1.trans (hid_new hp)) (new_lst h1.trk hp d1)⟩
/-! tests -/
theorem et_tst {p : Bool → Prop} (h : Eg K S G te (fun d => ∃ b, d = .bl b ∧ p b)) : Et K S G (tTest te) p := fun B O σ H hh Q k =>
  h B O σ H hh _ fun v H' d hd h1 g1 d1 => by
    obtain ⟨b, rfl, hb⟩ := hd
    exact ⟨b, d1, k b H' hb h1 g1⟩
theorem et_tst1 {b : Bool} (h : Eg K S G te (· = .bl b)) : Et K S G (tTest te) (· = b) := et_tst (eg_imp h fun _ e => ⟨b, e, rfl⟩)
theorem et_B {p : Bool → Prop} (h : Eg K S G te (fun d => ∃ b, d = .bl b ∧ p b)) : Et K S G (L2.tB te) p := fun B O σ H hh Q k =>
  h B O σ H hh _ fun v H' d hd h1 g1 d1 => by
    obtain ⟨b, rfl, hb⟩ := hd
    exact ⟨b, d1, k b H' hb h1 g1⟩
theorem et_B1 {b : Bool} (h : Eg K S G te (· = .bl b)) : Et K S G (L2.tB te) (· = b) := et_B (eg_imp h fun _ e => ⟨b, e, rfl⟩)
theorem et_not {p : Bool → Prop} (h : Et K S G tt (fun b => p (!b))) : Et K S G (tNot tt) p := fun B O σ H hh Q k => h B O σ H hh _ fun b H' hb h1 g1 => k (!b) H' hb h1 g1
theorem et_or {p q r : Bool → Prop} (h1 : Et K S G tt p) (h2 : p false → Et K S G tu q) (ht : p true → r true) (hf : p false → ∀ b, q b → r b) : Et K S G (tOr tt tu) r := fun B O σ H hh Q k =>
  h1 B O σ H hh _ fun b H1 hb h1 g1 => by
    cases b with
    | true => exact iteT (k true H1 (ht hb) h1 g1)
    | false => exact iteF (h2 hb B O σ H1 h1 _ fun c H2 hc h2 g2 => k c H2 (hf hb c hc) h2 (g1.trans g2))
theorem et_or1 {a b : Bool} (h1 : Et K S G tt (· = a)) (h2 : a = false → Et K S G tu (· = b)) : Et K S G (tOr tt tu) (· = (a || b)) :=
  et_or (q := (· = b)) h1 (fun e => h2 e.symm) (fun e => by rw [← e]; rfl) (fun e c hc => by rw [← e, hc]; rfl)
theorem et_not1 {a : Bool} (h : Et K S G tt (· = a)) : Et K S G (tNot tt) (· = !a) := et_not (et_imp h fun b e => by rw [e])
theorem eg_if {p : Bool → Prop} {q : Dt → Prop} (h : Et K S G tt p) (h1 : p true → Eg K S G ta q) (h2 : p false → Eg K S G tb q) : Eg K S G (tIf tt ta tb) q := fun B O σ H hh Q k =>
  h B O σ H hh _ fun b H1 hb hh1 g1 => by
    cases b with
    | true => exact iteT (h1 hb B O σ H1 hh1 _ fun w H2 d hd h2 g2 d2 => k w H2 d hd h2 (g1.trans g2) d2)
    | false => exact iteF (h2 hb B O σ H1 hh1 _ fun w H2 d hd h2 g2 d2 => k w H2 d hd h2 (g1.trans g2) d2)
end

/-! ### what values do -/
section
theorem rv_out {K : PySem.W.Frag} {H : Hp} {P : List Addr} {z : Dt} {v : V} {Q : VK} {pz : Dt → Prop} (k : ∀ u H' d, pz d → Ex H H' → Dn K (hid H' P) d u → Q u H') (h : pz z) (d : Dn K (hid H P) z v) : Q v H := k v H z h (Ex.refl H) d
/-- scalars -/
def Dt.v? : Dt → Option V
  | .non => some .non
  | .bl b => some (.bl b)
  | .int i => some (.int i)
  | .str x => some (.str x)
  | _ => none
theorem dn_v {H : Hp} {d : Dt} {v u : V} (h : Dn K H d v) (e : d.v? = some u) : v = u := by
  cases d <;> cases e <;> exact h
theorem r2_eq {x y : Dt} {u w : V} {pz : Dt → Prop} (hx : x.v? = some u) (hy : y.v? = some w) (hs : scal u w = true) (h : pz (.bl (decide (u = w)))) : R2v K rEq x y pz := fun P H v v' Q _ d1 d2 k => by
  have e1 := dn_v d1 hx
  have e2 := dn_v d2 hy
  subst e1 e2
  exact ⟨hs, rv_out k h rfl⟩
theorem r2_ne {x y : Dt} {u w : V} {pz : Dt → Prop} (hx : x.v? = some u) (hy : y.v? = some w) (hs : scal u w = true) (h : pz (.bl (!decide (u = w)))) : R2v K rNe x y pz := fun P H v v' Q _ d1 d2 k => by
  have e1 := dn_v d1 hx
  have e2 := dn_v d2 hy
  subst e1 e2
  exact ⟨hs, rv_out k h rfl⟩
def Dt.isN : Dt → Bool
  | .non => true
  | _ => false
/-- one of several (scalars) -/
theorem dnA_v {H : Hp} : ∀ {ds : List Dt} {vs us : List V}, DnA K H ds vs → ds.map Dt.v? = us.map some → vs = us
  | [], _, us, h, e => by
    cases (show _ = [] from h)
    cases us with
    | nil => rfl
    | cons _ _ => cases e
  | d :: ds, _, us, h, e => by
    obtain ⟨v, r, rfl, h1, h2⟩ := h
    cases us with
    | nil => cases e
    | cons u us =>
      rw [List.map_cons, List.map_cons] at e
      injection e with e1 e2
      rw [dn_v h1 e1, dnA_v h2 e2]
theorem atI_dn {H : Hp} {ds : List Dt} {vs : List V} {i : Int} {d : Dt} (h : DnA K H ds vs) (e : atI ds i = some d) : ∃ v, atI vs i = some v ∧ Dn K H d v := by
  unfold atI at e ⊢
  rw [DnA.len h]
  cases hx : ixN ds.length i with
  | none => rw [hx] at e; cases e
  | some j =>
    rw [hx] at e
    exact DnA.get h e
theorem r2_ixL {ds : List Dt} {i : Int} {d : Dt} {pz : Dt → Prop} (e : atI ds i = some d) (h : pz d) : R2v K (rIxL K) (.lst ds) (.int i) pz := fun P H v w Q _ d1 d2 k => by
  obtain ⟨a, xs, rfl, h1, h2⟩ := d1
  obtain ⟨v, e1, e2⟩ := atI_dn h2 e
  exact ⟨a, xs, i, v, rfl, d2, SqL.of (hid_ex P _ _ h1), e1, rv_out k h e2⟩
end
end Sb

set_option Elab.async false
set_option linter.all false
set_option maxRecDepth 100000
set_option autoImplicit false
namespace Sb
open PySem PySem.Spec L2
variable {K : KX} {S : List Addr} {G : List Sl}

def op (O : Ow) : List Addr := O.map (·.1)
structure Fin (K : KX) (B : Hp) (S : List Addr) (O : Ow) (H : Hp) : Prop where
  ex : ∀ a o, B a = some o → NT o → a ∉ S → hid H (op O ++ S) a = some o
  oo : ∀ q ∈ O, H q.1 = some q.2
  on : ∀ q ∈ O, NT q.2
  tb : Tb K H
  sr : ∀ p ∈ S, SrcAt H p
theorem Hold.subP {B : Hp} {O : Ow} {H : Hp} {σ : St} (h : Hold K B S O G H σ) : ∀ a ∈ op O ++ S, a ∈ pof O G := fun a ha => by
  rcases List.mem_append.mp ha with z | z
  · exact List.mem_append_left _ z
  · obtain ⟨i, hi⟩ := h.srcIn z
    exact List.mem_append_right _ (mem_ads hi rfl)
theorem Hold.srcAt {B : Hp} {O : Ow} {H : Hp} {σ : St} (h : Hold K B S O G H σ) : ∀ p ∈ S, SrcAt H p := fun p hp => by
  obtain ⟨i, hi⟩ := h.srcIn hp
  obtain ⟨_, _, _, e⟩ := h.sl i _ hi
  exact e
theorem Hold.fin {B : Hp} {O : Ow} {H : Hp} {σ : St} (h : Hold K B S O G H σ) : Fin K B S O H :=
  ⟨fun a o e nt n => hid_sub h.subP a o (h.ex a o e nt n) nt, h.oo, h.on, h.tb, h.srcAt⟩
/-- a statement: from G to one of N, or back with data of R, or broken off in one of Bk -/
def Run (K : KX) (S : List Addr) (ts : TS) (G : List Sl) (N : List Sl → Prop) (R : Dt → Prop) (Bk : List Sl → Prop) : Prop := ∀ B O (D : Ends) σ H, Hold K B S O G H σ →
  (∀ G' σ' H', N G' → Hold K B S O G' H' σ' → D.nx σ' H') → (∀ v d H', R d → Fin K B S O H' → Dn K (hid H' (op O ++ S)) d v → D.rt v H') → (∀ G' σ' H', Bk G' → Hold K B S O G' H' σ' → D.bk σ' H') → ts D σ H
section
variable {te : TE} {tt : TT} {t1 t2 ts : TS} {N N1 Bk : List Sl → Prop} {R : Dt → Prop}
theorem run_seq (h1 : Run K S t1 G N1 R Bk) (h2 : ∀ G1, N1 G1 → Run K S t2 G1 N R Bk) : Run K S (tSeq t1 t2) G N R Bk := fun B O D σ H hh a b c =>
  h1 B O { D with nx := t2 D } σ H hh (fun G' σ' H' n h' => h2 G' n B O D σ' H' h' a b c) b c
theorem run_next (h : N G) : Run K S tNext G N R Bk := fun B O D σ H hh a b c => a G σ H h hh
theorem run_if {p : Bool → Prop} (h : Et K S G tt p) (h1 : p true → Run K S t1 G N R Bk) (h2 : p false → Run K S t2 G N R Bk) : Run K S (tIfS tt t1 t2) G N R Bk := fun B O D σ H hh a b c =>
  h B O σ H hh _ fun k H1 hk hh1 g1 => by
    cases k with
    | true => exact iteT (h1 hk B O D σ H1 hh1 a b c)
    | false => exact iteF (h2 hk B O D σ H1 hh1 a b c)
theorem run_ret (h : Eg K S G te R) : Run K S (tRet te) G N R Bk := fun B O D σ H hh a b c =>
  h B O σ H hh _ fun v H1 d hd hh1 g1 d1 => b v d H1 hd hh1.fin (Dn.mono (hid_sub hh1.subP) d d1)
/-- a target takes a value; W: the slots that it writes -/
def Gg (K : KX) (S : List Addr) (G : List Sl) (g : TG) (d : Dt) (W : List Nat) (G' : List Sl) : Prop := ∀ B O σ H v, Hold K B S O G H σ → Dn K (hid H (pof O G)) d v → ∀ Q : St → Hp → Prop,
  (∀ σ', Hold K B S O G' H σ' → pof O G' = pof O G → wipe σ' W = wipe σ W → Q σ' H) → g v σ H Q
theorem wipe_get {σ : St} {j : Nat} : ∀ W : List Nat, (wipe σ W)[j]? = if j ∈ W then (σ[j]?).map (fun _ => none) else σ[j]?
  | [] => by simp [wipe]
  | v :: vs => by
    have ih := wipe_get (σ := σ) (j := j) vs
    unfold wipe
    rw [List.getElem?_set, wipe_length]
    by_cases e : v = j
    · subst e
      by_cases l : v < σ.length
      · simp [l]
      · simp [l]
    · have e' : ¬ j = v := fun z => e z.symm
      simp only [e, if_false, List.mem_cons, e', false_or]
      exact ih
theorem wipe_set {σ : St} {i : Nat} {v : Option V} {W : List Nat} (h : i ∈ W) : wipe (σ.set i v) W = wipe σ W := by
  apply List.ext_getElem?
  intro j
  rw [wipe_get, wipe_get, List.getElem?_set]
  by_cases e : i = j
  · subst e
    by_cases l : i < σ.length
    · simp [l, h]
    · simp [l]
  · simp [e]
theorem pof_set {O : Ow} {i : Nat} {s : Sl} {d : Dt} (hi : G[i]? = some s) (hs : s.ad = none) : pof O (G.set i (.da d)) = pof O G := by
  have hlt : i < G.length := (List.getElem?_eq_some_iff.mp hi).1
  unfold pof ads
  have e1 : G = G.take i ++ s :: G.drop (i + 1) := by
    have : G[i] = s := by rw [List.getElem?_eq_getElem hlt] at hi; exact Option.some.inj hi
    rw [← this, ← List.drop_eq_getElem_cons hlt, List.take_append_drop]
  have e2 : G.set i (.da d) = G.take i ++ Sl.da d :: G.drop (i + 1) := List.set_eq_take_append_cons_drop .. |>.trans (if_pos hlt)
  rw [e2]
  conv => rhs; rw [e1]
  rw [List.filterMap_append, List.filterMap_append, List.filterMap_cons, List.filterMap_cons, hs]
  rfl
theorem gg_name {i : Nat} {s : Sl} {d : Dt} {W : List Nat} (hi : G[i]? = some s) (hs : s.ad = none) (hW : i ∈ W) : Gg K S G (gName i) d W (G.set i (.da d)) := fun B O σ H v hh hd Q k =>
  k _ (hh.set hi hs hd) (pof_set hi hs) (wipe_set hW)
theorem run_asg {g : TG} {p : Dt → Prop} (W : List Nat) (h : Eg K S G te p) (hn : ∀ d, p d → ∃ G', Gg K S G g d W G' ∧ N G') : Run K S (tAsg te g) G N R Bk := fun B O D σ H hh a b c =>
  h B O σ H hh _ fun v H1 d hd hh1 g1 d1 => by
    obtain ⟨G', hg, n⟩ := hn d hd
    exact hg B O σ H1 v hh1 d1 _ fun σ' h' _ _ => a G' σ' H1 n h'
theorem run_set {i : Nat} {s : Sl} {p : Dt → Prop} (h : Eg K S G te p) (hi : G[i]? = some s) (hs : s.ad = none) (hn : ∀ d, p d → N (G.set i (.da d))) : Run K S (tAsg te (gName i)) G N R Bk :=
  run_asg [i] h fun d hd => ⟨_, gg_name hi hs (by simp), hn d hd⟩
end
/-! ### own lists -/
section
variable {B : Hp} {O : Ow} {H H' : Hp} {σ : St}
theorem split_at {i : Nat} {s s' : Sl} (hi : G[i]? = some s) : G = G.take i ++ s :: G.drop (i + 1) ∧ G.set i s' = G.take i ++ s' :: G.drop (i + 1) := by
  have hlt : i < G.length := (List.getElem?_eq_some_iff.mp hi).1
  constructor
  · have : G[i] = s := by rw [List.getElem?_eq_getElem hlt] at hi; exact Option.some.inj hi
    rw [← this, ← List.drop_eq_getElem_cons hlt, List.take_append_drop]
  · exact List.set_eq_take_append_cons_drop .. |>.trans (if_pos hlt)
theorem Hold.own (h : Hold K B S O G H σ) {i : Nat} {s : Sl} {p : Addr} (hi : G[i]? = some s) (hs : s.ad = none) (hp : H p = none) : Hold K B S O (G.set i (.ow p [])) (upd H p (.lst [])) (σ.set i (some (.ref p))) := by
  have hlt : i < G.length := (List.getElem?_eq_some_iff.mp hi).1
  obtain ⟨e1, e2⟩ := split_at (s' := .ow p []) hi
  have hf : p ∉ pof O G := h.fresh hp
  have eA : ads G = ads (G.take i) ++ ads (G.drop (i + 1)) := by
    conv => lhs; rw [e1]
    unfold ads
    rw [List.filterMap_append, List.filterMap_cons, hs]
  have eB : ads (G.set i (.ow p [])) = ads (G.take i) ++ p :: ads (G.drop (i + 1)) := by
    rw [e2]
    unfold ads
    rw [List.filterMap_append, List.filterMap_cons]
    rfl
  have mem : ∀ a, a ∈ pof O (G.set i (.ow p [])) ↔ a = p ∨ a ∈ pof O G := fun a => by
    unfold pof
    rw [eA, eB]
    simp only [List.mem_append, List.mem_cons]
    constructor
    · rintro (z | z | z | z) <;> simp [z]
    · rintro (z | z | z | z) <;> simp [z]
  have gr : ExN (hid H (pof O G)) (hid (upd H p (.lst [])) (pof O (G.set i (.ow p [])))) := fun a o e _ => by
    obtain ⟨n, e'⟩ := hid_some e
    have np : a ≠ p := ne_of_none e' hp
    rw [hid_out (fun z => ((mem a).mp z).elim np n), upd_ne np]
    exact e'
  have up : ∀ a o, H a = some o → upd H p (.lst []) a = some o := fun a o e => by rw [upd_ne (ne_of_none e hp)]; exact e
  refine ⟨by rw [List.length_set, List.length_set]; exact h.len, fun j t e => ?_, ?_, ?_, fun a o e nt n => gr a o (h.ex a o e nt n) nt, fun q hq => up _ _ (h.oo q hq), h.on, h.tb.ext (new_ex hp)⟩
  · by_cases hj : j = i
    · subst hj
      rw [List.getElem?_set_self hlt] at e
      cases e
      exact ⟨some (.ref p), List.getElem?_set_self (by rw [h.len]; exact hlt), rfl, [], upd_same, rfl⟩
    · rw [List.getElem?_set_ne (Ne.symm hj)] at e
      obtain ⟨o, h1, h2⟩ := h.sl j t e
      refine ⟨o, by rw [List.getElem?_set_ne (Ne.symm hj)]; exact h1, ?_⟩
      cases t with
      | un => trivial
      | rf q => exact h2
      | da d =>
        obtain ⟨v, x1, x2⟩ := h2
        exact ⟨v, x1, Dn.mono gr d x2⟩
      | ow q ds =>
        obtain ⟨x1, xs, x2, x3⟩ := h2
        exact ⟨x1, xs, up _ _ x2, DnA.mono gr ds x3⟩
      | od q ds =>
        obtain ⟨x1, xs, x2, x3⟩ := h2
        exact ⟨x1, xs, up _ _ x2, DnK.mono gr ds x3⟩
      | xc z q f dt =>
        obtain ⟨x1, xs, x2, x3⟩ := h2
        exact ⟨x1, xs, gr _ _ x2 nt_xd, Dn.mono gr dt x3⟩
      | oi q ds => exact ⟨h2.1, up _ _ h2.2⟩
      | sr q =>
        obtain ⟨x1, x, y, z, x2⟩ := h2
        exact ⟨x1, x, y, z, up _ _ x2⟩
  · have n0 := h.nd
    unfold pof at n0 hf ⊢
    rw [eA] at n0 hf
    rw [eB]
    rw [← List.append_assoc] at n0 hf ⊢
    have q := (List.perm_middle (l₁ := op O ++ ads (G.take i)) (l₂ := ads (G.drop (i + 1))) (a := p))
    exact q.nodup_iff.mpr (List.nodup_cons.mpr ⟨hf, n0⟩)
  · rw [← h.ss, e2]
    conv => rhs; rw [e1]
    have sd : s.sd = none := by cases s <;> first | rfl | cases hs
    unfold srs
    rw [List.filterMap_append, List.filterMap_append, List.filterMap_cons, List.filterMap_cons, sd]
    rfl
theorem Hold.app (h : Hold K B S O G H σ) {i : Nat} {p : Addr} {ds : List Dt} {d : Dt} {v : V} {xs : List V} (hi : G[i]? = some (.ow p ds)) (hx : H p = some (.lst xs)) (hd : Dn K (hid H (pof O G)) d v) : Hold K B S O (G.set i (.ow p (ds ++ [d]))) (upd H p (.lst (xs ++ [v]))) σ := by
  have hlt : i < G.length := (List.getElem?_eq_some_iff.mp hi).1
  obtain ⟨e1, e2⟩ := split_at (s' := .ow p (ds ++ [d])) hi
  have eB : ads (G.set i (.ow p (ds ++ [d]))) = ads G := by
    rw [e2]
    conv => rhs; rw [e1]
    unfold ads
    rw [List.filterMap_append, List.filterMap_append, List.filterMap_cons, List.filterMap_cons]
    rfl
  have ep : pof O (G.set i (.ow p (ds ++ [d]))) = pof O G := by unfold pof; rw [eB]
  have hpP : p ∈ pof O G := List.mem_append_right _ (mem_ads hi rfl)
  have hpO : ∀ q ∈ O, q.1 ≠ p := fun q hq z => (List.nodup_append.mp h.nd).2.2 q.1 (List.mem_map_of_mem hq) p (mem_ads hi rfl) z
  have gr : ExN (hid H (pof O G)) (hid (upd H p (.lst (xs ++ [v]))) (pof O G)) := hid_up hpP
  refine ⟨by rw [List.length_set]; exact h.len, fun j t e => ?_, by rw [ep]; exact h.nd, ?_, by rw [ep]; exact fun a o e nt n => gr a o (h.ex a o e nt n) nt, fun q hq => by rw [upd_ne (hpO q hq)]; exact h.oo q hq, h.on, tabs_past h.tb (not_tbl hx nt_lst) (not_cod hx nc_lst) fun a o n e => by rw [upd_ne n]; exact e⟩
  · rw [ep]
    by_cases hj : j = i
    · subst hj
      rw [List.getElem?_set_self hlt] at e
      cases e
      obtain ⟨o, h1, h2, ys, h3, h4⟩ := h.sl j _ hi
      rw [hx] at h3
      cases h3
      exact ⟨o, h1, h2, xs ++ [v], upd_same, DnA.app (DnA.mono gr ds h4) (DnA.one (Dn.mono gr d hd))⟩
    · rw [List.getElem?_set_ne (Ne.symm hj)] at e
      obtain ⟨o, h1, h2⟩ := h.sl j t e
      have ne : ∀ q, t.ad = some q → q ≠ p := fun q hq z => hj (nodup_ads h.ndA e hi (by rw [hq, z]) rfl)
      refine ⟨o, h1, ?_⟩
      cases t with
      | un => trivial
      | rf q => exact h2
      | da d =>
        obtain ⟨v, x1, x2⟩ := h2
        exact ⟨v, x1, Dn.mono gr d x2⟩
      | ow q ds =>
        obtain ⟨x1, xs, x2, x3⟩ := h2
        exact ⟨x1, xs, by rw [upd_ne (ne q rfl)]; exact x2, DnA.mono gr ds x3⟩
      | od q ds =>
        obtain ⟨x1, xs, x2, x3⟩ := h2
        exact ⟨x1, xs, by rw [upd_ne (ne q rfl)]; exact x2, DnK.mono gr ds x3⟩
      | xc z q f dt =>
        obtain ⟨x1, xs, x2, x3⟩ := h2
        exact ⟨x1, xs, gr _ _ x2 nt_xd, Dn.mono gr dt x3⟩
      | oi q ds => exact ⟨h2.1, by rw [upd_ne (ne q rfl)]; exact h2.2⟩
      | sr q =>
        obtain ⟨x1, x, y, z, x2⟩ := h2
        exact ⟨x1, x, y, z, by rw [upd_ne (ne q rfl)]; exact x2⟩
  · rw [← h.ss, e2]
    conv => rhs; rw [e1]
    unfold srs
    rw [List.filterMap_append, List.filterMap_append, List.filterMap_cons, List.filterMap_cons]
    rfl
end
section
variable {te : TE} {N Bk : List Sl → Prop} {R : Dt → Prop}
end
end Sb

set_option Elab.async false
set_option linter.all false
set_option maxRecDepth 100000
set_option autoImplicit false
namespace Sb
open PySem PySem.Spec L2
variable {K : KX} {S : List Addr} {G : List Sl}

/-! ### walks -/
structure WkJ (K : PySem.W.Frag) (Bx : Hp) (J : It) (ds : List Dt) : Prop where
  go : ∀ i H, ExN Bx H → i < ds.length → J.go i H
  stop : ∀ H, ExN Bx H → J.stop ds.length H
  yld : ∀ i H x H' d, ExN Bx H → ds[i]? = some d → J.yld i H x H' → Ex H H' ∧ ∀ P, Trk P H → ExN Bx (hid H P) → Dn K (hid H' P) d x
def Wk (K : KX) (S : List Addr) (G : List Sl) (wi : TI) (post : List Dt → Prop) : Prop := ∀ B O σ H, Hold K B S O G H σ → ∀ R : It → Hp → Prop,
  (∀ J H1 ds, post ds → Hold K B S O G H1 σ → Gr (pof O G) H H1 → WkJ K (hid H1 (pof O G)) J ds → R J H1) → wi σ H R
def rng (lo : Int) (n : Nat) : List Dt := (List.range n).map fun (i : Nat) => Dt.int (lo + (i : Int))
theorem rng_len (lo : Int) (n : Nat) : (rng lo n).length = n := by unfold rng; rw [List.length_map, List.length_range]
theorem rng_get {lo : Int} {n i : Nat} {d : Dt} (h : (rng lo n)[i]? = some d) : i < n ∧ d = .int (lo + (i : Int)) := by
  unfold rng at h
  rw [List.getElem?_map] at h
  by_cases l : i < n
  · rw [List.getElem?_range l] at h
    exact ⟨l, (Option.some.inj h).symm⟩
  · rw [List.getElem?_eq_none (by rw [List.length_range]; omega)] at h
    cases h
theorem wkJ_rng {Bx : Hp} {lo : Int} {n : Nat} : WkJ K Bx (Itr lo n) (rng lo n) where
  go := fun i H _ hi => by rw [rng_len] at hi; exact hi
  stop := fun H _ => by rw [rng_len]; exact Nat.le_refl n
  yld := fun i H x H' d _ hi y => by
    obtain ⟨rfl, rfl⟩ := y
    obtain ⟨_, rfl⟩ := rng_get hi
    exact ⟨Ex.refl _, fun P _ _ => rfl⟩
theorem wk_rng1 {ta : TA} {p : List Dt → Prop} (h : Ea K S G ta (fun ds => ∃ n : Int, ds = [.int n] ∧ -(2 ^ 62) ≤ n ∧ n < 2 ^ 62 ∧ p (rng 0 n.toNat))) : Wk K S G (iRng1 ta) p := fun B O σ H hh R k =>
  h B O σ H hh _ fun vs H1 ds hd h1 g1 d1 => by
    obtain ⟨n, rfl, h2, h3, hp⟩ := hd
    obtain ⟨v, r, rfl, e1, e2⟩ := d1
    cases (show v = _ from e1)
    cases (show r = [] from e2)
    exact ⟨n, rfl, h2, h3, k _ _ _ hp h1 g1 wkJ_rng⟩
/-- a text's signs -/
def sgs (x : Str) : List Dt := x.cps.toList.map fun c => Dt.str ⟨#[c]⟩
/-! ### for -/
theorem Hold.exB {B : Hp} {O : Ow} {H : Hp} {σ : St} (h : Hold K B S O G H σ) (hB : ∀ a o, B a = some o → a ∉ S) : ExN B (hid H (pof O G)) := fun a o e nt => h.ex a o e nt (hB a o e)
theorem run_for {wi : TI} {g : TG} {tb : TS} {N Bk : List Sl → Prop} {R : Dt → Prop} {p : List Dt → Prop} (hw : Wk K S G wi p)
    (hb : ∀ ds, p ds → ∃ I : Nat → List Sl → Prop, I 0 G ∧ (∀ i d G1, ds[i]? = some d → I i G1 → ∃ W G2, Gg K S G1 g d W G2 ∧ Run K S tb G2 (I (i + 1)) R N) ∧ ∀ G1, I ds.length G1 → N G1) : Run K S (tFor wi g tb) G N R Bk := fun B O D σ H hh a b c =>
  hw B O σ H hh _ fun J H1 ds hp hh1 g1 wk => by
    obtain ⟨I, i0, step, fin⟩ := hb ds hp
    have hB : ∀ a o, hid H1 (pof O G) a = some o → a ∉ S := fun a o e z => hh1.notS e z
    have bb : ∀ a o, B a = some o → NT o → a ∉ S → hid H1 (pof O G) a = some o := fun a o e nt n => hh1.ex a o e nt n
    refine ⟨fun i m σ' H' => m = ds.length - i ∧ i ≤ ds.length ∧ ∃ G1, I i G1 ∧ Hold K (hid H1 (pof O G)) S O G1 H' σ', ⟨ds.length, by omega, by omega, G, i0, hh1.rebase⟩, ?_⟩
    rintro i m σ' H' ⟨rfl, hi, G1, hI, hG⟩
    have e1 : ExN (hid H1 (pof O G)) (hid H' (pof O G1)) := hG.exB hB
    have e0 : ExN (hid H1 (pof O G)) H' := e1.trans (hid_ex _).n
    by_cases hlt : i < ds.length
    · refine .inr ⟨wk.go i H' e0 hlt, fun σ2 H2 => ∃ G2, I (i + 1) G2 ∧ Hold K (hid H1 (pof O G)) S O G2 H2 σ2, fun σ2 H2 h2 => ⟨ds.length - (i + 1), by omega, rfl, by omega, h2⟩, fun x H2 y => ?_⟩
      have hd : ds[i]? = some ds[i] := List.getElem?_eq_getElem hlt
      obtain ⟨ex2, dn⟩ := wk.yld i H' x H2 _ e0 hd y
      obtain ⟨W, G2, hg, hr⟩ := step i _ G1 hd hI
      have hG2 := hG.more ex2
      refine hg _ O σ' H2 x hG2 (dn _ hG.trk e1) _ fun σ3 h3 _ _ => ?_
      refine hr _ O _ σ3 H2 h3 (fun G4 σ4 H4 i4 h4 => ⟨G4, i4, h4⟩) (fun v d H4 r4 f4 d4 => b v d H4 r4 ⟨fun a o e nt n => f4.ex a o (bb a o e nt n) nt n, f4.oo, f4.on, f4.tb, f4.sr⟩ d4) fun G4 σ4 H4 n4 h4 => a G4 σ4 H4 n4 (h4.based bb)
    · have e : i = ds.length := by omega
      subst e
      exact .inl ⟨wk.stop H' e0, a G1 σ' H' (fin G1 hI) (hG.based bb)⟩

/-! ### comprehensions -/
theorem Hold.wiped {B : Hp} {O : Ow} {H : Hp} {σ : St} {W : List Nat} (h : Hold K B S O G H σ) (hW : ∀ i ∈ W, ∀ s, G[i]? = some s → s = .un) : Hold K B S O G H (wipe σ W) where
  len := by rw [wipe_length]; exact h.len
  sl := fun i s e => by
    obtain ⟨o, h1, h2⟩ := h.sl i s e
    rw [wipe_get, h1]
    by_cases m : i ∈ W
    · have := hW i m s e
      subst this
      rw [if_pos m]
      exact ⟨none, rfl, trivial⟩
    · rw [if_neg m]
      exact ⟨o, rfl, h2⟩
  nd := h.nd
  ss := h.ss
  ex := h.ex
  oo := h.oo
  on := h.on
  tb := h.tb
theorem Hold.unwipe {B : Hp} {O : Ow} {H H' : Hp} {σ : St} {W : List Nat} (h0 : Hold K B S O G H σ) (h : Hold K B S O G H' (wipe σ W)) (hW : ∀ i ∈ W, ∀ s, G[i]? = some s → s = .un) : Hold K B S O G H' σ where
  len := h0.len
  sl := fun i s e => by
    obtain ⟨o, h1, h2⟩ := h.sl i s e
    obtain ⟨o0, h3, _⟩ := h0.sl i s e
    rw [wipe_get] at h1
    by_cases m : i ∈ W
    · have := hW i m s e
      subst this
      exact ⟨o0, h3, trivial⟩
    · rw [if_neg m] at h1
      exact ⟨o, h1, h2⟩
  nd := h.nd
  ss := h.ss
  ex := h.ex
  oo := h.oo
  on := h.on
  tb := h.tb
theorem wipe_wipe {σ : St} {W : List Nat} : wipe (wipe σ W) W = wipe σ W := by
  apply List.ext_getElem?
  intro j
  rw [wipe_get, wipe_get]
  by_cases m : j ∈ W
  · rw [if_pos m, if_pos m]
    cases σ[j]? <;> rfl
  · rw [if_neg m, if_neg m]
/-- a new list, kept apart -/
theorem Hold.apart {B : Hp} {O : Ow} {H : Hp} {σ : St} {D : Addr} (h : Hold K B S O G H σ) (hD : H D = none) (hB : ∀ a o, B a = some o → a ∉ S) : Hold K B S ((D, .lst []) :: O) G (upd H D (.lst [])) σ := by
  have hf := h.fresh hD
  have gr : ExN (hid H (pof O G)) (hid (upd H D (.lst [])) (pof ((D, .lst []) :: O) G)) := fun a o e _ => by
    obtain ⟨n, e'⟩ := hid_some e
    have np : a ≠ D := ne_of_none e' hD
    show hid (upd H D (.lst [])) (D :: pof O G) a = some o
    rw [hid_out (fun z => (List.mem_cons.mp z).elim np n), upd_ne np]
    exact e'
  have up : ∀ a o, H a = some o → upd H D (.lst []) a = some o := fun a o e => by rw [upd_ne (ne_of_none e hD)]; exact e
  refine ⟨h.len, fun j t e => ?_, List.nodup_cons.mpr ⟨hf, h.nd⟩, h.ss, fun a o e nt n => gr a o (h.ex a o e nt n) nt, fun q hq => ?_, fun q hq => ?_, h.tb.ext (new_ex hD)⟩
  · obtain ⟨o, h1, h2⟩ := h.sl j t e
    refine ⟨o, h1, ?_⟩
    cases t with
    | un => trivial
    | rf q => exact h2
    | da d =>
      obtain ⟨v, x1, x2⟩ := h2
      exact ⟨v, x1, Dn.mono gr d x2⟩
    | ow q ds =>
      obtain ⟨x1, xs, x2, x3⟩ := h2
      exact ⟨x1, xs, up _ _ x2, DnA.mono gr ds x3⟩
    | od q ds =>
      obtain ⟨x1, xs, x2, x3⟩ := h2
      exact ⟨x1, xs, up _ _ x2, DnK.mono gr ds x3⟩
    | xc z q f dt =>
      obtain ⟨x1, xs, x2, x3⟩ := h2
      exact ⟨x1, xs, gr _ _ x2 nt_xd, Dn.mono gr dt x3⟩
    | oi q ds => exact ⟨h2.1, up _ _ h2.2⟩
    | sr q =>
      obtain ⟨x1, x, y, z, x2⟩ := h2
      exact ⟨x1, x, y, z, up _ _ x2⟩
  · rcases List.mem_cons.mp hq with z | z
    · subst z; exact upd_same
    · exact up _ _ (h.oo q z)
  · rcases List.mem_cons.mp hq with z | z
    · subst z; exact nt_lst
    · exact h.on q z
theorem pof_cons {D : Addr} {o : HO} {O : Ow} : pof ((D, o) :: O) G = D :: pof O G := rfl
/-- it grows -/
theorem Hold.apart_up {B : Hp} {O : Ow} {H : Hp} {σ : St} {D : Addr} {o o' : HO} (h : Hold K B S ((D, o) :: O) G H σ) (n' : NT o' := by first | exact nt_lst | exact nt_ins | exact nt_dK) (c : NC o := by first | exact nc_lst | exact nc_ins | exact nc_dK) : Hold K B S ((D, o') :: O) G (upd H D o') σ := by
  have nd := h.nd
  rw [pof_cons] at nd
  have hf : D ∉ pof O G := (List.nodup_cons.mp nd).1
  have hin : D ∈ pof ((D, o) :: O) G := List.mem_cons_self
  have gr : ExN (hid H (pof ((D, o) :: O) G)) (hid (upd H D o') (pof ((D, o') :: O) G)) := hid_up (P := pof ((D, o) :: O) G) hin
  have ne : ∀ {a : Addr}, a ∈ pof O G → a ≠ D := fun ha z => hf (by rw [← z]; exact ha)
  have hD := h.oo (D, o) List.mem_cons_self
  refine ⟨h.len, fun j t e => ?_, nd, h.ss, fun a u e nt n => gr a u (h.ex a u e nt n) nt, fun q hq => ?_, fun q hq => ?_, tabs_past h.tb (not_tbl hD (h.on (D, o) List.mem_cons_self)) (not_cod hD c) fun a u n e => by rw [upd_ne n]; exact e⟩
  · obtain ⟨u, h1, h2⟩ := h.sl j t e
    refine ⟨u, h1, ?_⟩
    have nn : ∀ q, t.ad = some q → q ≠ D := fun q hq => ne (List.mem_append_right _ (mem_ads e hq))
    cases t with
    | un => trivial
    | rf q => exact h2
    | da d =>
      obtain ⟨v, x1, x2⟩ := h2
      exact ⟨v, x1, Dn.mono gr d x2⟩
    | ow q ds =>
      obtain ⟨x1, xs, x2, x3⟩ := h2
      exact ⟨x1, xs, by rw [upd_ne (nn q rfl)]; exact x2, DnA.mono gr ds x3⟩
    | od q ds =>
      obtain ⟨x1, xs, x2, x3⟩ := h2
      exact ⟨x1, xs, by rw [upd_ne (nn q rfl)]; exact x2, DnK.mono gr ds x3⟩
    | xc z q f dt =>
      obtain ⟨x1, xs, x2, x3⟩ := h2
      exact ⟨x1, xs, gr _ _ x2 nt_xd, Dn.mono gr dt x3⟩
    | oi q ds => exact ⟨h2.1, by rw [upd_ne (nn q rfl)]; exact h2.2⟩
    | sr q =>
      obtain ⟨x1, x, y, z, x2⟩ := h2
      exact ⟨x1, x, y, z, by rw [upd_ne (nn q rfl)]; exact x2⟩
  · rcases List.mem_cons.mp hq with z | z
    · subst z; exact upd_same
    · rw [upd_ne (ne (List.mem_append_left _ (List.mem_map_of_mem z)))]
      exact h.oo q (List.mem_cons_of_mem _ z)
  · rcases List.mem_cons.mp hq with z | z
    · subst z; exact n'
    · exact h.on q (List.mem_cons_of_mem _ z)
/-- it is let go -/
theorem Hold.unapart {B : Hp} {O : Ow} {H : Hp} {σ : St} {D : Addr} {o : HO} (h : Hold K B S ((D, o) :: O) G H σ) : Hold K B S O G H σ := by
  have gr : ExN (hid H (pof ((D, o) :: O) G)) (hid H (pof O G)) := hid_sub fun a ha => List.mem_cons_of_mem _ ha
  refine ⟨h.len, fun j t e => ?_, (List.nodup_cons.mp h.nd).2, h.ss, fun a u e nt n => gr a u (h.ex a u e nt n) nt, fun q hq => h.oo q (List.mem_cons_of_mem _ hq), fun q hq => h.on q (List.mem_cons_of_mem _ hq), h.tb⟩
  obtain ⟨u, h1, h2⟩ := h.sl j t e
  refine ⟨u, h1, ?_⟩
  cases t with
  | un => trivial
  | rf q => exact h2
  | da d =>
    obtain ⟨v, x1, x2⟩ := h2
    exact ⟨v, x1, Dn.mono gr d x2⟩
  | ow q ds =>
    obtain ⟨x1, xs, x2, x3⟩ := h2
    exact ⟨x1, xs, x2, DnA.mono gr ds x3⟩
  | od q ds =>
    obtain ⟨x1, xs, x2, x3⟩ := h2
    exact ⟨x1, xs, x2, DnK.mono gr ds x3⟩
  | xc z q f dt =>
    obtain ⟨x1, xs, x2, x3⟩ := h2
    exact ⟨x1, xs, gr _ _ x2 nt_xd, Dn.mono gr dt x3⟩
  | oi q ds => exact h2
  | sr q => exact h2
/-- what the turns may give: Rel d (none: left out | some e) -/
inductive Outs (Rel : Dt → Option Dt → Prop) : List Dt → List Dt → Prop
  | nil : Outs Rel [] []
  | skip {ds es : List Dt} {d : Dt} : Outs Rel ds es → Rel d none → Outs Rel (ds ++ [d]) es
  | add {ds es : List Dt} {d e : Dt} : Outs Rel ds es → Rel d (some e) → Outs Rel (ds ++ [d]) (es ++ [e])
theorem Outs.len {Rel : Dt → Option Dt → Prop} {ds es : List Dt} (h : Outs Rel ds es) : es.length ≤ ds.length := by
  induction h with
  | nil => exact Nat.le_refl _
  | skip _ _ ih => rw [List.length_append]; omega
  | add _ _ ih => rw [List.length_append, List.length_append]; simp only [List.length_cons, List.length_nil]; omega
theorem eg_lc {wi : TI} {g : TG} {tt : TT} {te : TE} {W : List Nat} {p : List Dt → Prop} {pz : Dt → Prop} {Rel : Dt → Option Dt → Prop} (hW : ∀ i ∈ W, ∀ s, G[i]? = some s → s = .un) (hw : Wk K S G wi p)
    (hp : ∀ ds, p ds → ds.length ≤ 10000 ∧ (∀ es, Outs Rel ds es → pz (.lst es)) ∧ ∀ d ∈ ds, ∃ G2 pb, Gg K S G g d W G2 ∧ Et K S G2 tt pb ∧ (pb false → Rel d none) ∧ (pb true → Eg K S G2 te (fun e => Rel d (some e)))
      ∧ (∀ B O H σ, Hold K B S O G2 H σ → Hold K B S O G H (wipe σ W))) : Eg K S G (tLc wi g tt te W) pz := fun B O σ H hh Q k =>
  hw B O σ H hh _ fun J H1 ds hds hh1 g1 wk => by
    obtain ⟨hlen, houts, hstep⟩ := hp ds hds
    have hB : ∀ a o, hid H1 (pof O G) a = some o → a ∉ S := fun a o e z => hh1.notS e z
    have bb : ∀ a o, B a = some o → NT o → a ∉ S → hid H1 (pof O G) a = some o := fun a o e nt n => hh1.ex a o e nt n
    intro D hD
    refine ⟨fun i m H' => m = ds.length - i ∧ i ≤ ds.length ∧ ∃ es xs, Outs Rel (ds.take i) es ∧ Hold K (hid H1 (pof O G)) S ((D, .lst xs) :: O) G H' (wipe σ W) ∧ DnA K (hid H' (D :: pof O G)) es xs,
      ⟨ds.length, by omega, by omega, [], [], by rw [List.take_zero]; exact .nil, (hh1.rebase.wiped hW).apart hD hB, rfl⟩, ?_⟩
    rintro i m H' ⟨rfl, hi, es, xs, ho, hG, hx⟩
    have e1 : ExN (hid H1 (pof O G)) (hid H' (pof ((D, .lst xs) :: O) G)) := hG.exB hB
    have e0 : ExN (hid H1 (pof O G)) H' := e1.trans (hid_ex _).n
    by_cases hlt : i < ds.length
    · refine .inr ⟨wk.go i H' e0 hlt, fun H2 => ∃ es xs, Outs Rel (ds.take (i + 1)) es ∧ Hold K (hid H1 (pof O G)) S ((D, .lst xs) :: O) G H2 (wipe σ W) ∧ DnA K (hid H2 (D :: pof O G)) es xs, fun H2 h2 => ⟨ds.length - (i + 1), by omega, rfl, by omega, h2⟩, fun x H2 y => ?_⟩
      have hd : ds[i]? = some ds[i] := List.getElem?_eq_getElem hlt
      obtain ⟨ex2, dn⟩ := wk.yld i H' x H2 _ e0 hd y
      obtain ⟨G2, pb, hg, ht, hf, hte, hback⟩ := hstep ds[i] (List.getElem_mem hlt)
      have hG2 := hG.more ex2
      have tke : ds.take (i + 1) = ds.take i ++ [ds[i]] := List.take_succ_eq_append_getElem hlt
      have hx2 : DnA K (hid H2 (D :: pof O G)) es xs := DnA.mono (hid_mono fun a o _ e => ex2 a o e) es hx
      refine hg _ _ (wipe σ W) H2 x hG2 (dn _ hG.trk e1) _ fun σ3 h3 hpf hw3 => ⟨?_, ?_⟩
      · rw [hw3, wipe_wipe]
      · have hww : wipe (wipe σ W) W = wipe σ W := wipe_wipe
        have pf : pof ((D, HO.lst xs) :: O) G2 = D :: pof O G := by rw [hpf]; rfl
        refine ht _ _ σ3 H2 h3 _ fun b H3 hb hh3 g3 => ?_
        cases b with
        | false =>
          refine iteF ⟨es, xs, ?_, ?_, ?_⟩
          · rw [tke]; exact .skip ho (hf hb)
          · have := hback _ _ _ _ hh3
            rw [hw3, hww] at this
            exact this
          · rw [pf] at g3
            exact DnA.mono g3 es hx2
        | true =>
          refine iteT ?_
          refine hte hb _ _ σ3 H3 hh3 _ fun v H4 e he hh4 g4 d4 => ?_
          rw [pf] at g3 g4 d4
          have hl' : xs.length < sizeLine := by
            have := ho.len
            rw [DnA.len hx]
            have h5 : (ds.take i).length ≤ 10000 := by rw [List.length_take]; omega
            exact Nat.lt_of_le_of_lt (Nat.le_trans this h5) (by decide)
          refine ⟨xs, hh4.oo (D, .lst xs) List.mem_cons_self, hl', es ++ [e], xs ++ [v], ?_, ?_, ?_⟩
          · rw [tke]; exact .add ho he
          · have := hback _ _ _ _ (hh4.apart_up (o' := .lst (xs ++ [v])))
            rw [hw3, hww] at this
            exact this
          · have up : ExN (hid H4 (D :: pof O G)) (hid (upd H4 D (.lst (xs ++ [v]))) (D :: pof O G)) := hid_up List.mem_cons_self
            exact DnA.app (DnA.mono (g3.trans (g4.trans up)) es hx2) (DnA.one (Dn.mono up e d4))
    · have e : i = ds.length := by omega
      subst e
      rw [List.take_length] at ho
      refine .inl ⟨wk.stop H' e0, ?_⟩
      have h5 := (hG.unapart).based bb
      have hD5 : H' D = some (.lst xs) := hG.oo (D, .lst xs) List.mem_cons_self
      have nD : D ∉ pof O G := (List.nodup_cons.mp hG.nd).1
      refine k _ H' _ (houts es ho) (hh.unwipe h5 hW) (g1.trans ?_) ⟨D, xs, rfl, by rw [hid_out nD]; exact hD5, DnA.mono (hid_sub fun a ha => List.mem_cons_of_mem _ ha) es hx⟩
      exact (e1.trans (hid_sub fun a ha => List.mem_cons_of_mem _ ha))
end Sb

set_option Elab.async false
set_option linter.all false
set_option maxRecDepth 100000
set_option autoImplicit false
namespace Sb
open PySem PySem.Spec PyProof.Rows L2
variable {K : KX} {S : List Addr} {G : List Sl}

/-! ### promises -/
def spP (K : KX) (pre : List Dt → Prop) (post : List Dt → Dt → Prop) : Sp := fun vs H Q _ => ∃ P ds, Trk P H ∧ P.Nodup ∧ Tb K H ∧ DnA K (hid H P) ds vs ∧ pre ds ∧ ∀ v d H', post ds d → ExN H H' → Tb K H' → Dn K (hid H' P) d v → Q v H'
def spS (K : KX) (pre : List Dt → Prop) (post : List Dt → Dt → Prop) : Sp := fun vs H Q _ => ∃ P p ds ws, vs = .ref p :: ws ∧ p ∈ P ∧ SrcAt H p ∧ Trk P H ∧ P.Nodup ∧ Tb K H ∧ DnA K (hid H P) ds ws ∧ pre ds ∧
  ∀ v d H', post ds d → SrcAt H' p → (∀ a o, a ≠ p → H a = some o → NT o → H' a = some o) → Tb K H' → Dn K (hid H' P) d v → Q v H'
/-- never called -/
def spN : Sp := fun _ _ _ _ => False
def obj (H : Hp) (a : Addr) : HO := match H a with | some o => o | none => .lst []
theorem Trk.obj {P : List Addr} {H : Hp} (t : Trk P H) {a : Addr} (h : a ∈ P) : H a = some (obj H a) ∧ NT (obj H a) := by
  obtain ⟨o, e, n⟩ := t a h
  have q : Sb.obj H a = o := by unfold Sb.obj; rw [e]
  rw [q]
  exact ⟨e, n⟩
def fr0 (ds : List Dt) (n : Nat) : List Sl := ds.map Sl.da ++ List.replicate (n - ds.length) .un
theorem ads_fr0 (ds : List Dt) (n : Nat) : ads (fr0 ds n) = [] := by
  unfold ads fr0
  rw [List.filterMap_append]
  have h1 : (ds.map Sl.da).filterMap Sl.ad = [] := List.filterMap_eq_nil_iff.mpr fun s hs => by
    obtain ⟨d, _, rfl⟩ := List.mem_map.mp hs
    rfl
  have h2 : (List.replicate (n - ds.length) Sl.un).filterMap Sl.ad = [] := List.filterMap_eq_nil_iff.mpr fun s hs => by
    rw [List.eq_of_mem_replicate hs]
    rfl
  rw [h1, h2]
  rfl
theorem srs_fr0 (ds : List Dt) (n : Nat) : srs (fr0 ds n) = [] := by
  unfold srs fr0
  rw [List.filterMap_append]
  have h1 : (ds.map Sl.da).filterMap Sl.sd = [] := List.filterMap_eq_nil_iff.mpr fun s hs => by
    obtain ⟨d, _, rfl⟩ := List.mem_map.mp hs
    rfl
  have h2 : (List.replicate (n - ds.length) Sl.un).filterMap Sl.sd = [] := List.filterMap_eq_nil_iff.mpr fun s hs => by
    rw [List.eq_of_mem_replicate hs]
    rfl
  rw [h1, h2]
  rfl
theorem sl_fr0 {H : Hp} {P : List Addr} {ds : List Dt} {vs : List V} {n : Nat} (d : DnA K (hid H P) ds vs) : ∀ (i : Nat) (s : Sl), (fr0 ds n)[i]? = some s → ∃ o, (vs.map some ++ List.replicate (n - vs.length) none)[i]? = some o ∧ SlOk K P H o s := fun i s e => by
  have hl := DnA.len d
  unfold fr0 at e
  by_cases h : i < ds.length
  · rw [List.getElem?_append_left (by rw [List.length_map]; exact h), List.getElem?_map, List.getElem?_eq_getElem h] at e
    cases e
    obtain ⟨v, e1, e2⟩ := DnA.get d (List.getElem?_eq_getElem h)
    refine ⟨some v, ?_, v, rfl, e2⟩
    rw [List.getElem?_append_left (by rw [List.length_map]; omega), List.getElem?_map, e1]
    rfl
  · rw [List.getElem?_append_right (by rw [List.length_map]; omega), List.length_map] at e
    have q : i - ds.length < n - ds.length := by
      have := (List.getElem?_eq_some_iff.mp e).1
      rw [List.length_replicate] at this
      exact this
    rw [List.getElem?_replicate, if_pos q] at e
    cases e
    refine ⟨none, ?_, trivial⟩
    rw [List.getElem?_append_right (by rw [List.length_map]; omega), List.length_map, List.getElem?_replicate, if_pos (by omega)]
theorem entryP {P : List Addr} {H : Hp} {ds : List Dt} {vs : List V} {N : List Str} (t : Trk P H) (nd : P.Nodup) (tb : Tb K H) (d : DnA K (hid H P) ds vs) : Hold K (hid H P) [] (P.map fun a => (a, obj H a)) (fr0 ds N.length) H (start N vs) := by
  have hl := DnA.len d
  have ep : pof (P.map fun a => (a, obj H a)) (fr0 ds N.length) = P := by
    unfold pof
    rw [ads_fr0, List.append_nil, List.map_map]
    exact List.map_id P
  refine ⟨?_, by rw [ep]; exact sl_fr0 d, by rw [ep]; exact nd, srs_fr0 _ _, by rw [ep]; exact fun a o e _ _ => e, fun q hq => ?_, fun q hq => ?_, tb⟩
  · unfold L2.start fr0
    rw [List.length_append, List.length_append, List.length_map, List.length_map, List.length_replicate, List.length_replicate, hl]
  · obtain ⟨a, ha, rfl⟩ := List.mem_map.mp hq
    exact (t.obj ha).1
  · obtain ⟨a, ha, rfl⟩ := List.mem_map.mp hq
    exact (t.obj ha).2
theorem entryS {P : List Addr} {p : Addr} {H : Hp} {ds : List Dt} {ws : List V} {x : Str} {N : List Str} (hp : p ∈ P) (sa : SrcAt H p) (t : Trk P H) (nd : P.Nodup) (tb : Tb K H) (d : DnA K (hid H P) ds ws) :
    Hold K (hid H P) [p] ((P.filter (· ≠ p)).map fun a => (a, obj H a)) (.sr p :: fr0 ds N.length) H (start (x :: N) (.ref p :: ws)) := by
  have hl := DnA.len d
  have ea : ads (.sr p :: fr0 ds N.length) = [p] := by
    have : ads (.sr p :: fr0 ds N.length) = p :: ads (fr0 ds N.length) := rfl
    rw [this, ads_fr0]
  have ep : pof ((P.filter (· ≠ p)).map fun a => (a, obj H a)) (.sr p :: fr0 ds N.length) = P.filter (· ≠ p) ++ [p] := by
    unfold pof
    rw [ea, List.map_map]
    congr 1
    exact List.map_id _
  have mem : ∀ a, a ∈ P.filter (· ≠ p) ++ [p] ↔ a ∈ P := fun a => by
    simp only [List.mem_append, List.mem_filter, List.mem_singleton, decide_eq_true_eq]
    constructor
    · rintro (⟨h, _⟩ | h)
      · exact h
      · rw [h]; exact hp
    · intro h
      by_cases e : a = p
      · exact .inr e
      · exact .inl ⟨h, by simpa using e⟩
  have eq : hid H (P.filter (· ≠ p) ++ [p]) = hid H P := by
    funext a
    by_cases h : a ∈ P
    · rw [hid_in h, hid_in ((mem a).mpr h)]
    · rw [hid_out h, hid_out fun z => h ((mem a).mp z)]
  refine ⟨?_, fun i s e => ?_, ?_, ?_, by rw [ep, eq]; exact fun a o e _ _ => e, fun q hq => ?_, fun q hq => ?_, tb⟩
  · unfold L2.start fr0
    simp only [List.length_append, List.length_map, List.length_replicate, List.length_cons, hl]
    omega
  · rw [ep]
    cases i with
    | zero =>
      cases e
      exact ⟨some (.ref p), rfl, rfl, sa⟩
    | succ i =>
      have e' : (fr0 ds N.length)[i]? = some s := e
      obtain ⟨o, h1, h2⟩ := sl_fr0 (K := K) (H := H) (P := P.filter (· ≠ p) ++ [p]) (by rw [eq]; exact d) i s e'
      refine ⟨o, ?_, h2⟩
      show ((some (V.ref p) :: ws.map some) ++ List.replicate ((x :: N).length - (V.ref p :: ws).length) none)[i + 1]? = some o
      have en : (x :: N).length - (V.ref p :: ws).length = N.length - ws.length := by simp only [List.length_cons]; omega
      rw [en]
      exact h1
  · rw [ep]
    refine List.nodup_append.mpr ⟨nd.filter _, by simp, fun a ha b hb => ?_⟩
    have : b = p := by simpa using hb
    subst this
    simpa using (List.mem_filter.mp ha).2
  · show srs (.sr p :: fr0 ds N.length) = [p]
    have : srs (.sr p :: fr0 ds N.length) = p :: srs (fr0 ds N.length) := rfl
    rw [this, srs_fr0]
  · obtain ⟨a, ha, rfl⟩ := List.mem_map.mp hq
    exact (t.obj (List.mem_filter.mp ha).1).1
  · obtain ⟨a, ha, rfl⟩ := List.mem_map.mp hq
    exact (t.obj (List.mem_filter.mp ha).1).2
/-- from a body's reading to the promise -/
theorem endP {t : TS} {pre : List Dt → Prop} {post : List Dt → Dt → Prop} {N : List Str} {vs : List V} {H : Hp} {Q : VK} {E : XK} (h : spP K pre post vs H Q E) (hr : ∀ ds, pre ds → Run K [] t (fr0 ds N.length) (fun _ => post ds .non) (post ds) (fun _ => False)) :
    t { nx := fun _ H' => Q .non H', rt := Q } (start N vs) H := by
  obtain ⟨P, ds, tr, nd, tb, d, hp, k⟩ := h
  have Ho : op (P.map fun a => (a, obj H a)) = P := by unfold op; rw [List.map_map]; exact List.map_id P
  have fin : ∀ {v : V} {d : Dt} {H' : Hp}, post ds d → Fin K (hid H P) [] (P.map fun a => (a, obj H a)) H' → Dn K (hid H' (op (P.map fun a => (a, obj H a)) ++ [])) d v → Q v H' := fun {v d H'} hd f dn => by
    rw [Ho, List.append_nil] at dn
    refine k v d H' hd (fun a o e nt => ?_) f.tb dn
    by_cases hm : a ∈ P
    · have e1 := f.oo (a, obj H a) (List.mem_map_of_mem hm)
      have e2 := (tr.obj hm).1
      rw [e] at e2
      rw [Option.some.inj e2]
      exact e1
    · have e1 := f.ex a o (by rw [hid_out hm]; exact e) nt (by simp)
      exact (hid_some e1).2
  refine hr ds hp _ _ _ _ H (entryP tr nd tb d) (fun G' σ' H' n hh => fin n hh.fin rfl) (fun v d H' r f dn => fin r f dn) (fun _ _ _ n _ => n.elim)
theorem endS {t : TS} {pre : List Dt → Prop} {post : List Dt → Dt → Prop} {x : Str} {N : List Str} {vs : List V} {H : Hp} {Q : VK} {E : XK} (h : spS K pre post vs H Q E) (hr : ∀ p ds, pre ds → Run K [p] t (.sr p :: fr0 ds N.length) (fun _ => post ds .non) (post ds) (fun _ => False)) :
    t { nx := fun _ H' => Q .non H', rt := Q } (start (x :: N) vs) H := by
  obtain ⟨P, p, ds, ws, rfl, hP, sa, tr, nd, tb, d, hp, k⟩ := h
  have Ho : op ((P.filter (· ≠ p)).map fun a => (a, obj H a)) = P.filter (· ≠ p) := by unfold op; rw [List.map_map]; exact List.map_id _
  have fin : ∀ {v : V} {d : Dt} {H' : Hp}, post ds d → Fin K (hid H P) [p] ((P.filter (· ≠ p)).map fun a => (a, obj H a)) H' → Dn K (hid H' (op ((P.filter (· ≠ p)).map fun a => (a, obj H a)) ++ [p])) d v → Q v H' := fun {v d H'} hd f dn => by
    rw [Ho] at dn
    have mem : ∀ a, a ∈ P → a ∈ P.filter (· ≠ p) ++ [p] := fun a h => by
      by_cases e : a = p
      · exact List.mem_append_right _ (by simp [e])
      · exact List.mem_append_left _ (List.mem_filter.mpr ⟨h, by simpa using e⟩)
    have mem2 : ∀ a, a ∈ P.filter (· ≠ p) ++ [p] → a ∈ P := fun a h => by
      rcases List.mem_append.mp h with z | z
      · exact (List.mem_filter.mp z).1
      · have : a = p := by simpa using z
        rw [this]; exact hP
    refine k v d H' hd (f.sr p (by simp)) (fun a o n e nt => ?_) f.tb (Dn.mono (hid_sub mem) d dn)
    by_cases hm : a ∈ P
    · have e1 := f.oo (a, obj H a) (List.mem_map_of_mem (List.mem_filter.mpr ⟨hm, by simpa using n⟩))
      have e2 := (tr.obj hm).1
      rw [e] at e2
      rw [Option.some.inj e2]
      exact e1
    · have e1 := f.ex a o (by rw [hid_out hm]; exact e) nt (by simpa using n)
      exact (hid_some e1).2
  refine hr p ds hp _ _ _ _ H (entryS hP sa tr nd tb d) (fun G' σ' H' n hh => fin n hh.fin rfl) (fun v d H' r f dn => fin r f dn) (fun _ _ _ n _ => n.elim)
section
variable {P : Program} {w : World} {mg : Str → Option Value} {base : Heap}
end
/-! ### what is never reached -/
section
variable {X : Cx}
end
end Sb

set_option Elab.async false
set_option linter.all false
set_option maxRecDepth 100000
set_option autoImplicit false
namespace Sb
open PySem PySem.Spec PyProof.Rows L2

/-! ### defs that run where nothing is being shown (no repr is under way) -/
section
variable {P : Program} {w : World} {K : PySem.W.Frag} {mg : Str → Option Value} {base : Heap}
structure FnG (P : Program) (w : World) (K : PySem.W.Frag) (mg : Str → Option Value) (base : Heap)
    (k : Nat) (f : Addr) (fd : FuncData) (ps : List Str) (sp : Sp) : Prop where
  ln : ∀ vs H Q E, sp vs H Q E → vs.length = ps.length
  go : ∀ (A : Around) (outer : List Env) (s : Shared) (H : Hp) (ar : Args) (us : List Value) (vs : List V) (Q : VK) (E : XK),
    A.guards = some [] → Room k A → Env0 P w K mg base A outer s H → BindsTo s fd ar (ps.zip us) → Vals vs us →
    sp vs H Q E → codeAny (model P w) A (.call (.ref f) ar) (CR CX0 outer P w H s Q E) s
theorem FnG.of {k : Nat} {f : Addr} {fd : FuncData} {ps : List Str} {sp : Sp}
    (F : FnOk P w K mg base CX0 k f fd ps sp) : FnG P w K mg base k f fd ps sp :=
  ⟨F.len, fun A outer s H ar us vs Q E _ => F.run A outer s H ar us vs Q E⟩
theorem fun_okG {x qual : Str} {st : Stmt} {f : Addr} {fd : FuncData} {N ps : List Str} {k : Nat} {sp : Sp}
    (F : Fun K x qual st f fd) (Sc : FnScope N ps (defScope st)) (ln : ∀ vs H Q E, sp vs H Q E → vs.length = ps.length)
    (hbody : ∀ (cdv : Value) (A : Around) (outer : List Env) (s : Shared) (H : Hp) (vs : List V) (Q : VK) (E : XK),
      A.guards = some [] → Room k (A.deeper (envOfC qual (defScope st) s.heap.objs.size f cdv)) → sp vs H Q E →
      ∃ t, PSs (cxOf CX0 P w K mg base N qual (defScope st) f cdv A outer s H E).nox (defBody st) t ∧
        t { nx := fun _ H' => Q .non H', rt := Q } (L2.start N vs) H) : FnG P w K mg base (k + 1) f fd ps sp := by
  obtain ⟨oc, od, kV, doc, pm, an, cdv, ct, osl, rfl, lk, hcd⟩ := F.ex
  refine ⟨ln, fun A outer s H ar us vs Q E gd room e0 bnd rel want => ?_⟩
  have inK : K.In s.heap := e0.mod.kin.keeps fun b o q => (e0.bs b o q).1
  have nolim : s.heap.NoLimit := e0.mod.nolimit.keeps fun b o q => (e0.bs b o q).1
  refine codeAny_call_function room.depth (inK _ _ lk) rfl Sc.co Sc.gen rfl (PySem.W.codeRec_of inK hcd) (bnd _ _ _ _ ?_)
  refine wpAny_newFunctionEnv_cells Sc.kind (fun ⟨n, v⟩ hy => ?_) fun env he s1 xx => ?_
  · rcases Sc.par n (List.of_mem_zip hy).1 with q | q
    · left
      exact q
    · right
      exact ⟨q, PySem.W.cellsFrom_some _ _ _ (.inl q)⟩
  · subst he
    refine ⟨nolim.keeps xx.toInCall.keep, codeAny_func ?_⟩
    obtain ⟨t, ht, hq⟩ := hbody cdv A outer s H vs Q E gd (room.deeper _) want
    have I0 := inv_start (CX := CX0) (E := E) Sc room.hd e0 (ln _ _ _ _ want) rel xx
    refine wpAny_mono (ht.nox.run [] s1 (L2.start N vs) H _ I0 hq) (fun fl s2 hs => ?_) fun _ _ hs => hs
    cases fl with
    | ret u =>
      obtain ⟨v, σ2, H2, J, rv, q⟩ := hs
      exact ⟨v, H2, J.os, J.bare, J.base, J.hok, rv, q⟩
    | next =>
      obtain ⟨σ2, H2, J, q⟩ := hs
      exact ⟨V.non, H2, J.os, J.bare, J.base, J.hok, rfl, q⟩
    | brk =>
      obtain ⟨_, _, _, q⟩ := hs
      exact q.elim
    | cont =>
      obtain ⟨_, _, _, q⟩ := hs
      exact q.elim
theorem pe_callG {X : Cx} {k : Nat} {f : Addr} {fd : FuncData} {ps : List Str} {sp : Sp} {x : Str} {p pos : Pos} {e : Expr} {es : List Expr} {t : TA}
    (F : FnG X.prog X.w X.K X.mg X.base k f fd ps sp) (gd : X.A.guards = some []) (room : Room k X.A) (hg : Gl X x) (hm : X.mg x = some (.ref f))
    (kp : PySem.W.keepIn X.K (.ref f) = true) (hb : Binds X.K fd ps []) (ha : PA X (e :: es) t) (hdb : (x == ("__debug__" : Str)) = false := by decide)
    (he : starEach (e :: es) X.env = (false, eval e X.env) :: starEach es X.env := by rfl) (hpl : (backTo pos (starEach es X.env)).any (·.1) = false := by rfl) :
    PE X (.Call (.Name x p) (e :: es) [] pos) (tCall sp [] E0 t) := by
  refine ⟨fun pins s σ H Q I want => wpAny_Call_Name_kw (ld_glob I hg hm ?_ hdb)⟩
  refine PySem.W.callWith_K (h₀ := X.base) I.ok.mod.kin kp
    (thn (ha.run pos pins s σ H _ I want) fun us s1 ⟨vs, H1, I1, rel, q⟩ => ⟨I1.kIn, ?_⟩) he hpl
  have q2 : sp vs H1 Q E0 := by
    have q1 : sp (vs ++ []) H1 Q E0 := q
    rw [List.append_nil] at q1
    exact q1
  have hl : (us ++ ([] : List Value)).length = ps.length := by
    rw [List.append_nil, ← rel.length]
    exact F.ln _ _ _ _ q2
  have bd := hb s1 us I1.kIn hl
  rw [List.append_nil] at bd
  refine wpAny_call (codeAny_mono (F.go X.A X.stack s1 H1 ⟨us, []⟩ us vs Q E0 gd room I1.env0 bd rel q2) fun r s2 hq => ?_)
  cases r with
  | error z => exact (show False from hq).elim
  | ok fl =>
    cases fl with
    | ret u => exact I1.after hq
    | next => exact (show False from hq).elim
    | brk => exact (show False from hq).elim
    | cont => exact (show False from hq).elim
end

/-! ### the law's own call -/
/-! ### repr -/
mutual
def Dt.py : Dt → PyData
  | .non => .none
  | .bl b => .bool b
  | .int i => .int i
  | .str x => .str x
  | .lst ds => .list (pyA ds)
  | .tup ds => .tuple (pyA ds)
  | .dic _ => .dict []
  | .dii _ => .none
  | .obj _ _ => .none
def pyA : List Dt → List PyData
  | [] => []
  | d :: ds => d.py :: pyA ds
end
mutual
def Dt.plain : Dt → Bool
  | .lst ds => plainA ds
  | .tup ds => plainA ds
  | .dic _ => false
  | .dii _ => false
  | .obj _ _ => false
  | _ => true
def plainA : List Dt → Bool
  | [] => true
  | d :: ds => d.plain && plainA ds
end
mutual
theorem dp_of {K : PySem.W.Frag} {H : Hp} : ∀ (d : Dt) {v : V}, d.plain = true → Dn K H d v → Dp K H v d.py
  | .non, _, _, h => by cases (show _ = _ from h); exact .non
  | .bl b, _, _, h => by cases (show _ = _ from h); exact .bl b
  | .int b, _, _, h => by cases (show _ = _ from h); exact .int b
  | .str b, _, _, h => by cases (show _ = _ from h); exact .str b
  | .lst ds, _, p, h => by
    obtain ⟨a, xs, rfl, h1, h2⟩ := h
    exact .lst (SqL.of h1) (dpA_of ds p h2)
  | .tup ds, _, p, h => by
    obtain ⟨a, xs, rfl, h1, h2⟩ := h
    exact .tup h1 (dpA_of ds p h2)
  | .dic _, _, p, _ => by cases p
  | .dii _, _, p, _ => by cases p
  | .obj _ _, _, p, _ => by cases p
theorem dpA_of {K : PySem.W.Frag} {H : Hp} : ∀ (d : List Dt) {v : List V}, plainA d = true → DnA K H d v → DpAll K H v (pyA d)
  | [], _, _, h => by cases (show _ = [] from h); exact .nil
  | d :: ds, _, p, h => by
    obtain ⟨v, r, rfl, h1, h2⟩ := h
    have p' : (d.plain && plainA ds) = true := p
    rw [Bool.and_eq_true] at p'
    exact .cons (dp_of d p'.1 h1) (dpA_of ds p'.2 h2)
end
def rRepr (K : PySem.W.Frag) : List V → Hp → VK → Prop := fun xs H Q =>
  ∃ v d, xs = [v] ∧ Dp K H v d ∧ d.showable = true ∧ d.hasDict = false ∧ d.depth ≤ 50 ∧ d.shown.length ≤ sizeLine ∧ Q (.str d.shown) H
theorem call_reprD {X : Cx} (gd : X.A.guards = some []) (hu : X.A.units + 64 < cLine) : CallR X (.builtin "repr") (rRepr X.K) := by
  intro pins s σ H xs us Q I r h
  obtain ⟨v, d, rfl, dp, sh, nd, dd, sz, q⟩ := h
  obtain ⟨u, rfl, r1⟩ := vals1 r
  obtain ⟨as, rd⟩ := Dp.reads I d v u dp r1
  have fin : ∀ h' tk, (∀ b o, s.heap.get? b = some o → h'.get? b = some o) → ∀ t, EP X pins σ Q (.str d.shown t) { s with heap := h', toks := tk } :=
    fun h' tk kp t => ⟨.str d.shown, H, I.kept kp, ⟨t, rfl⟩, q⟩
  have here : ∀ tk t, EP X pins σ Q (.str d.shown t) { s with toks := tk } := fun tk t => fin s.heap tk (fun _ _ z => z) t
  cases dp with
  | non =>
    cases (show u = Value.none from r1)
    exact PySem.P.repr_of_none (here _ _)
  | bl b =>
    cases (show u = Value.bool b from r1)
    exact PySem.P.repr_of_bool (by
      have := here (s.toks + 1) s.toks
      cases b <;> exact this)
  | int i =>
    obtain ⟨t, e⟩ := (show ∃ t, u = Value.int i t from r1)
    subst e
    have sh' : decide (i.natAbs.log2 < 1920) = true := sh
    exact PySem.P.repr_of_int (of_decide_eq_true sh') (here _ _)
  | str x =>
    obtain ⟨t, e⟩ := (show ∃ t, u = Value.str x t from r1)
    subst e
    exact PySem.P.repr_of_str (here _ _) sz
  | lst h1 h2 =>
    cases (show u = Value.ref _ from r1)
    exact repr_of_reads' rd sh (PyData.noDict_hsm nd) gd (by omega) (fun _ _ z => z) (fun h' u tk kp => fin h' tk kp u) sz
  | tup h1 h2 =>
    cases (show u = Value.ref _ from r1)
    exact repr_of_reads' rd sh (PyData.noDict_hsm nd) gd (by omega) (fun _ _ z => z) (fun h' u tk kp => fin h' tk kp u) sz
end Sb

set_option Elab.async false
set_option linter.all false
set_option maxRecDepth 100000
set_option autoImplicit false
namespace Sb
open PySem PySem.Spec PyProof.Rows L2
variable {K : KX} {S : List Addr} {G : List Sl}

/-! ### rules that leave the kinds of their operands open -/
section
variable {X : Cx}
def rSta : R2 := fun x y H Q => ∃ i j, x = .str i ∧ y = .str j ∧ i.length + j.length ≤ sizeLine ∧ Q (.str (i ++ j)) H
def rAddI : R2 := rI0 fun i j => .int (i + j)
def rAddA (K : PySem.W.Frag) : R2 := fun x y H Q => rAddI x y H Q ∨ (rSta x y H Q ∨ (rCat x y H Q ∨ rCatT K x y H Q))
theorem op_addA : OpR X (binaryOp .Add) (rAddA X.K) := OpR.or op_add (OpR.or op_add_str (OpR.or op_cat op_catT))
def rInA (K : PySem.W.Frag) : R2 := fun x y H Q => rIn K false x y H Q ∨ rInS x y H Q
def rNiA (K : PySem.W.Frag) : R2 := fun x y H Q => rIn K true x y H Q ∨ rNotInS x y H Q
theorem ixr_or {r r' : R2} (h : IxR X r) (h' : IxR X r') : IxR X (fun x y H Q => r x y H Q ∨ r' x y H Q) := by
  intro value slice pins s σ H x y v u Q I rx ry q e
  rcases q with q | q
  · exact h value slice pins s σ H x y v u Q I rx ry q e
  · exact h' value slice pins s σ H x y v u Q I rx ry q e
def rIxA (K : PySem.W.Frag) : R2 := fun x y H Q => rIxL K x y H Q ∨ (rIxT K x y H Q ∨ rIxS x y H Q)
theorem ix_any : IxR X (rIxA X.K) := ixr_or ix_list (ixr_or ix_tup ix_str)
def rSlA (K : PySem.W.Frag) : V → Option Int → Option Int → Hp → VK → Prop := fun x lo hi H Q => rSlL K x lo hi H Q ∨ (rSlT K x lo hi H Q ∨ rSlS x lo hi H Q)
theorem sl_any : SlR X (rSlA X.K) := SlR.or sl_list (SlR.or sl_tup sl_str)
theorem callr_or {f : Value} {r r' : List V → Hp → VK → Prop} (h : CallR X f r) (h' : CallR X f r') : CallR X f (fun xs H Q => r xs H Q ∨ r' xs H Q) := by
  intro pins s σ H xs us Q I rs q
  rcases q with q | q
  · exact h pins s σ H xs us Q I rs q
  · exact h' pins s σ H xs us Q I rs q
def rStrI : List V → Hp → VK → Prop := fun xs H Q => ∃ i, xs = [.int i] ∧ i.natAbs.log2 < 1920 ∧ Q (.str (toString i)) H
def rStrS : List V → Hp → VK → Prop := fun xs H Q => ∃ a, xs = [.str a] ∧ Q (.str a) H
def rStrA : List V → Hp → VK → Prop := fun xs H Q => rStrI xs H Q ∨ rStrS xs H Q
def rIntI : List V → Hp → VK → Prop := fun xs H Q => (∃ i, xs = [.int i] ∧ Q (.int i) H) ∨ ∃ k, xs = [.bl k] ∧ Q (.int (if k then 1 else 0)) H
def rIntS : List V → Hp → VK → Prop := fun xs H Q => ∃ a n, xs = [.str a] ∧ PySem.intText? a = some n ∧ a.length ≤ 640 ∧ Q (.int n) H
def rIntA : List V → Hp → VK → Prop := fun xs H Q => rIntI xs H Q ∨ rIntS xs H Q
theorem call_intA : CallR X (.type "int") rIntA := callr_or call_int1 call_int_str
def rLenA (K : PySem.W.Frag) : List V → Hp → VK → Prop := fun xs H Q => ∃ x n, xs = [x] ∧ LenV K x H n ∧ Q (.int n) H
theorem call_lenA : CallR X (.builtin "len") (rLenA X.K) := call_len
def rTupA (K : PySem.W.Frag) : List V → Hp → VK → Prop := fun xs H Q => ∃ p ys, xs = [.ref p] ∧ ((SqL K H p ys ∧ ∀ l, H l = none → Q (.ref l) (upd H l (.tup ys))) ∨ (SqT K H p ys ∧ Q (.ref p) H))
def rLstA (K : PySem.W.Frag) : List V → Hp → VK → Prop := fun xs H Q => ∃ p ys, xs = [.ref p] ∧ (SqL K H p ys ∨ SqT K H p ys) ∧ ∀ l, H l = none → Q (.ref l) (upd H l (.lst ys))
/-- what a for walks: a list, a tuple or a text -/
def iAny (K : PySem.W.Frag) (tl : TE) : TI := fun σ H R => tl σ H fun x H1 => (∃ a, x = .ref a ∧ (∃ xs, SqL K H1 a xs) ∧ R (Itl K a) H1) ∨ ((∃ a, x = .ref a ∧ (∃ xs, SqT K H1 a xs) ∧ R (Itt K a) H1) ∨ ∃ z, x = .str z ∧ R (Its z) H1)
theorem pi_any {tg l : Expr} {tl : TE} (hl : PE X l tl) : PI X tg l (iAny X.K tl) := by
  refine ⟨fun pins s σ H R I h => ?_⟩
  refine thn (hl.run pins s σ H _ I h) fun v s1 ⟨x, H1, I1, r1, q1⟩ => ?_
  rcases q1 with ⟨a, rfl, ⟨xs, hq⟩, q⟩ | ⟨a, rfl, ⟨xs, hq⟩, q⟩ | ⟨z, rfl, q⟩
  · cases r1
    obtain ⟨its, rv, p, hz⟩ := I1.list hq
    exact wpAny_pyIter_list p.isList (pi_one (tk := s1.toks) I1 _ (turn_list a _) ⟨_, Heap.get?_push_size _ rfl, rfl, rfl⟩ q)
  · cases r1
    obtain ⟨its, rv, p, hz⟩ := I1.tuple hq
    exact wpAny_pyIter_tuple (show s1.heap.IsTuple a its.toArray from p) (pi_one (tk := s1.toks) I1 _ (turn_tuple a _) ⟨_, Heap.get?_push_size _ rfl, rfl, rfl⟩ q)
  · obtain ⟨t, rfl⟩ := r1
    cases ha : z.cps.all (· < 128)
    · exact wpAny_pyIter_wide ha (pi_one (tk := s1.toks) I1 _ (turn_str _ z t "str_iterator" (.inr rfl)) ⟨_, Heap.get?_push_size _ rfl, rfl, rfl⟩ q)
    · exact wpAny_pyIter_ascii ha (pi_one (tk := s1.toks) I1 _ (turn_str _ z t "str_ascii_iterator" (.inl rfl)) ⟨_, Heap.get?_push_size _ rfl, rfl, rfl⟩ q)
end

/-! ### their readings on data -/
def Dt.items : Dt → Option (List Dt)
  | .lst ds => some ds
  | .tup ds => some ds
  | .str x => some (sgs x)
  | _ => none
theorem wkJ_list {Bx : Hp} {a : Addr} {xs : List V} {ds : List Dt} (s1 : Bx a = some (.lst xs)) (s2 : DnA K Bx ds xs) : WkJ K Bx (Itl K a) ds where
  go := fun i H e hi => by
    have hl := DnA.len s2
    exact ⟨xs, xs[i]'(by omega), SqL.of (e _ _ s1 nt_lst), List.getElem?_eq_getElem _⟩
  stop := fun H e => ⟨xs, SqL.of (e _ _ s1 nt_lst), by rw [DnA.len s2]; exact Nat.le_refl _⟩
  yld := fun i H x H' d e hi y => by
    obtain ⟨rfl, y⟩ := y
    obtain ⟨v, q1, q2⟩ := DnA.get s2 hi
    have := y xs (SqL.of (e _ _ s1 nt_lst))
    rw [q1] at this
    cases this
    exact ⟨Ex.refl _, fun P _ eb => Dn.mono eb d q2⟩
theorem wkJ_tup {Bx : Hp} {a : Addr} {xs : List V} {ds : List Dt} (s1 : SqT K Bx a xs) (s2 : DnA K Bx ds xs) : WkJ K Bx (Itt K a) ds where
  go := fun i H e hi => by
    have hl := DnA.len s2
    exact ⟨xs, xs[i]'(by omega), e.sqT s1, List.getElem?_eq_getElem _⟩
  stop := fun H e => ⟨xs, e.sqT s1, by rw [DnA.len s2]; exact Nat.le_refl _⟩
  yld := fun i H x H' d e hi y => by
    obtain ⟨rfl, y⟩ := y
    obtain ⟨v, q1, q2⟩ := DnA.get s2 hi
    have := y xs (e.sqT s1)
    rw [q1] at this
    cases this
    exact ⟨Ex.refl _, fun P _ eb => Dn.mono eb d q2⟩
theorem wkJ_str {Bx : Hp} {x : Str} : WkJ K Bx (Its x) (sgs x) := by
  have hl : (sgs x).length = x.cps.size := by unfold sgs; rw [List.length_map, Array.length_toList]
  refine ⟨fun i H' e hi => ?_, fun H' e => ?_, fun i H' y H'' d e hi q => ?_⟩
  · rw [hl] at hi; exact hi
  · rw [hl]; exact Nat.le_refl _
  · obtain ⟨rfl, c, hc, rfl⟩ := q
    unfold sgs at hi
    rw [List.getElem?_map, Array.getElem?_toList, hc] at hi
    cases hi
    exact ⟨Ex.refl _, fun P _ _ => rfl⟩
theorem wk_any {tl : TE} {p : List Dt → Prop} (h : Eg K S G tl (fun d => ∃ ds, d.items = some ds ∧ p ds)) : Wk K S G (iAny K tl) p := fun B O σ H hh R k =>
  h B O σ H hh _ fun v H1 d hd h1 g1 d1 => by
    obtain ⟨ds, hi, hp⟩ := hd
    cases d with
    | lst xs =>
      cases hi
      obtain ⟨a, ys, rfl, s1, s2⟩ := d1
      exact .inl ⟨a, rfl, ⟨ys, SqL.of (hid_ex _ _ _ s1)⟩, k _ _ _ hp h1 g1 (wkJ_list s1 s2)⟩
    | tup xs =>
      cases hi
      obtain ⟨a, ys, rfl, s1, s2⟩ := d1
      exact .inr (.inl ⟨a, rfl, ⟨ys, (hid_ex _).sqT s1⟩, k _ _ _ hp h1 g1 (wkJ_tup s1 s2)⟩)
    | str x =>
      cases hi
      exact .inr (.inr ⟨x, d1, k _ _ _ hp h1 g1 wkJ_str⟩)
    | non => cases hi
    | bl _ => cases hi
    | int _ => cases hi
    | dic _ => cases hi
    | dii _ => cases hi
    | obj _ _ => cases hi
theorem wk_any1 {tl : TE} {d : Dt} {ds : List Dt} (h : Eg K S G tl (· = d)) (hi : d.items = some ds) : Wk K S G (iAny K tl) (· = ds) := wk_any (eg_imp h fun _ e => ⟨ds, by rw [e]; exact hi, rfl⟩)
theorem wk_range1 {ta : TA} {n : Int} (h : Ea K S G ta (· = [.int n])) (h1 : -(2 ^ 62) ≤ n) (h2 : n < 2 ^ 62) : Wk K S G (iRng1 ta) (· = rng 0 n.toNat) := wk_rng1 fun B O σ H hh Q k => h B O σ H hh Q fun vs H' ds e => k vs H' ds ⟨n, e, h1, h2, rfl⟩
/-! #### operators -/
theorem r2_addI {i j : Int} {pz : Dt → Prop} (h : pz (.int (i + j))) : R2v K (rAddA K) (.int i) (.int j) pz := fun P H v w Q t d1 d2 k => .inl ⟨i, j, d1, d2, rv_out k h rfl⟩
theorem r2_addL {i j : List Dt} {pz : Dt → Prop} (hl : i.length + j.length ≤ 100000) (h : pz (.lst (i ++ j))) : R2v K (rAddA K) (.lst i) (.lst j) pz := fun P H v w Q t d1 d2 k => .inr (.inr (.inl (by
  obtain ⟨a, xs, rfl, h1, h2⟩ := d1
  obtain ⟨b, ys, rfl, h3, h4⟩ := d2
  refine ⟨a, b, xs, ys, rfl, rfl, hid_ex _ _ _ h1, hid_ex _ _ _ h3, by rw [DnA.len h2, DnA.len h4]; exact Nat.le_trans hl (by decide), fun p hp => k _ _ _ h (new_ex hp) (new_lst t hp (DnA.app h2 h4))⟩)))
theorem r2_ixAL {ds : List Dt} {i : Int} {d : Dt} {pz : Dt → Prop} (e : atI ds i = some d) (h : pz d) : R2v K (rIxA K) (.lst ds) (.int i) pz := fun P H v w Q t d1 d2 k => .inl (r2_ixL e h P H v w Q t d1 d2 k)
/-! #### slices -/
def cutD (ds : List Dt) (lo hi : Option Int) : List Dt := (ds.drop (HT.sIx ds.length 0 lo)).take (HT.sIx ds.length ds.length hi - HT.sIx ds.length 0 lo)
def Eo (K : KX) (S : List Addr) (G : List Sl) (to : TO) (o : Option Int) : Prop := ∀ B O σ H, Hold K B S O G H σ → ∀ Q : Option Int → Hp → Prop, (∀ H', Hold K B S O G H' σ → Gr (pof O G) H H' → Q o H') → to σ H Q
/-! #### calls of built-ins -/
def Dt.len? : Dt → Option Nat
  | .str x => some x.length
  | .lst ds => some ds.length
  | .tup ds => some ds.length
  | _ => none
theorem rc_intI {i : Int} {pz : Dt → Prop} (h : pz (.int i)) : Rcv K rIntA [.int i] pz := fun P H vs Q t dn k => by
  obtain ⟨v, r, rfl, d1, d2⟩ := dn
  cases (show r = [] from d2)
  cases (show v = _ from d1)
  exact .inl (.inl ⟨i, rfl, rv_out k h rfl⟩)
theorem rc_repr {d : Dt} {pz : Dt → Prop} (hp : d.plain = true) (h1 : d.py.showable = true) (h2 : d.py.hasDict = false) (h3 : d.py.depth ≤ 50) (h4 : d.py.shown.length ≤ 100000) (h : pz (.str d.py.shown)) : Rcv K (rRepr K) [d] pz := fun P H vs Q t dn k => by
  obtain ⟨v, r, rfl, d1, d2⟩ := dn
  cases (show r = [] from d2)
  exact ⟨v, _, rfl, dp_of d hp (Dn.mono (hid_ex P).n d d1), h1, h2, h3, Nat.le_trans h4 (by decide), rv_out k h rfl⟩
/-! #### isinstance with a built-in class -/
def Dt.tyn : Dt → Option String
  | .non => some "NoneType"
  | .bl _ => some "bool"
  | .int _ => some "int"
  | .str _ => some "str"
  | .lst _ => some "list"
  | .tup _ => some "tuple"
  | .dic _ => some "dict"
  | .dii _ => some "dict"
  | .obj _ _ => none
/-! #### methods of texts -/
def Rmv (K : PySem.W.Frag) (r : V → List V → Hp → VK → Prop) (x y : Dt) (z : Dt → Prop) : Prop := ∀ P H v w (Q : VK), Trk P H → Dn K (hid H P) x v → Dn K (hid H P) y w → (∀ u H' d, z d → Ex H H' → Dn K (hid H' P) d u → Q u H') → r v [w] H Q
def strsD (ys : List Str) : List Dt := ys.map Dt.str
end Sb

set_option Elab.async false
set_option linter.all false
set_option maxRecDepth 100000
set_option autoImplicit false
namespace Sb
open PySem PySem.Spec PyProof.Rows L2
/-! ### enumerate(v), v told by how it begins -/
/-- the pairs (i, item) of the tuple at a -/
def IteT (K : PySem.W.Frag) (a : Addr) : It where
  go := fun i H => ∃ (xs : List V) (x : V), SqT K H a xs ∧ xs[i]? = some x
  yld := fun i H v H' => ∃ T x, v = .ref T ∧ H T = none ∧ H' = upd H T (.tup [.int (i : Nat), x]) ∧ ∀ xs, SqT K H a xs → xs[i]? = some x
  stop := fun i H => ∃ xs : List V, SqT K H a xs ∧ xs.length = i
/-- for i, x in enumerate(t), t a tuple -/
def iEnT (K : PySem.W.Frag) (ta : TA) : TI := fun σ H R => ta σ H fun vs H1 => ∃ a xs, vs = [.ref a] ∧ SqT K H1 a xs ∧ R (IteT K a) H1
/-- the pairs (i, d) -/
def enumD (ds : List Dt) : List Dt := ds.zipIdx.map fun p => Dt.tup [.int (p.2 : Int), p.1]
end Sb

set_option Elab.async false
set_option linter.all false
set_option maxRecDepth 100000
set_option autoImplicit false
namespace Sb
open PySem PySem.Spec PyProof.Rows L2
variable {K : KX} {S : List Addr} {G : List Sl}
/-! ### == of anything -/
def rEqA (K : PySem.W.Frag) : R2 := fun x y H Q => rEq x y H Q ∨ rEqD K x y H Q
def rNeA (K : PySem.W.Frag) : R2 := fun x y H Q => rNe x y H Q ∨ rNeD K x y H Q
theorem op_eqA {X : Cx} (hu : X.A.units + 64 < cLine) : OpR X (compareOp .Eq) (rEqA X.K) := OpR.or op_eq (op_eqD hu)
theorem op_neA {X : Cx} (hu : X.A.units + 64 < cLine) : OpR X (compareOp .NotEq) (rNeA X.K) := OpR.or op_ne (op_neD hu)
theorem r2_eqS {i j : Str} {pz : Dt → Prop} (h : pz (.bl (decide (i = j)))) : R2v K (rEqA K) (.str i) (.str j) pz := fun P H v w Q t d1 d2 k => by
  have e : decide (V.str i = V.str j) = decide (i = j) := by simp
  exact .inl (r2_eq (x := .str i) (y := .str j) rfl rfl rfl (by rw [e]; exact h) P H v w Q t d1 d2 k)
theorem r2_neS {i j : Str} {pz : Dt → Prop} (h : pz (.bl (!decide (i = j)))) : R2v K (rNeA K) (.str i) (.str j) pz := fun P H v w Q t d1 d2 k => by
  have e : decide (V.str i = V.str j) = decide (i = j) := by simp
  exact .inl (r2_ne (x := .str i) (y := .str j) rfl rfl rfl (by rw [e]; exact h) P H v w Q t d1 d2 k)
theorem r2_eqI {i j : Int} {pz : Dt → Prop} (h : pz (.bl (decide (i = j)))) : R2v K (rEqA K) (.int i) (.int j) pz := fun P H v w Q t d1 d2 k => by
  have e : decide (V.int i = V.int j) = decide (i = j) := by simp
  exact .inl (r2_eq (x := .int i) (y := .int j) rfl rfl rfl (by rw [e]; exact h) P H v w Q t d1 d2 k)
/-! ### known operands, known answers -/
section
variable {ta tb tc te : TE}
theorem ed_op {r : R2} {x y : Dt} {z : Dt} (ha : Eg K S G ta (· = x)) (hb : Eg K S G tb (· = y)) (hr : R2v K r x y (· = z)) : Eg K S G (tOp r ta tb) (· = z) := eg_op ha hb fun _ _ e1 e2 => by rw [e1, e2]; exact hr
theorem ed_eqS {i j : Str} (ha : Eg K S G ta (· = .str i)) (hb : Eg K S G tb (· = .str j)) : Eg K S G (tOp (rEqA K) ta tb) (· = .bl (decide (i = j))) := ed_op ha hb (r2_eqS rfl)
theorem ed_neS {i j : Str} (ha : Eg K S G ta (· = .str i)) (hb : Eg K S G tb (· = .str j)) : Eg K S G (tOp (rNeA K) ta tb) (· = .bl (!decide (i = j))) := ed_op ha hb (r2_neS rfl)
theorem ed_eqI {i j : Int} (ha : Eg K S G ta (· = .int i)) (hb : Eg K S G tb (· = .int j)) : Eg K S G (tOp (rEqA K) ta tb) (· = .bl (decide (i = j))) := ed_op ha hb (r2_eqI rfl)
theorem ed_ixL {ds : List Dt} {i : Int} {d : Dt} (ha : Eg K S G ta (· = .lst ds)) (hb : Eg K S G tb (· = .int i)) (e : atI ds i = some d) : Eg K S G (tOp (rIxA K) ta tb) (· = d) := ed_op ha hb (r2_ixAL e rfl)
theorem ed_addI {i j : Int} (ha : Eg K S G ta (· = .int i)) (hb : Eg K S G tb (· = .int j)) : Eg K S G (tOp (rAddA K) ta tb) (· = .int (i + j)) := ed_op ha hb (r2_addI rfl)
theorem ed_addL {i j : List Dt} (ha : Eg K S G ta (· = .lst i)) (hb : Eg K S G tb (· = .lst j)) (hl : i.length + j.length ≤ 100000) : Eg K S G (tOp (rAddA K) ta tb) (· = .lst (i ++ j)) := ed_op ha hb (r2_addL hl rfl)
theorem ed_lt {i j : Int} (ha : Eg K S G ta (· = .int i)) (hb : Eg K S G tb (· = .int j)) : Eg K S G (tOp (rI0 fun i j => .bl (decide (i < j))) ta tb) (· = .bl (decide (i < j))) := ed_op ha hb fun P H v w Q t d1 d2 k => ⟨i, j, d1, d2, rv_out k rfl rfl⟩
/-- truth -/
def Dt.tru : Dt → Option Bool
  | .non => some false
  | .bl b => some b
  | .int i => some (i != 0)
  | .lst ds => some !ds.isEmpty
  | .tup ds => some !ds.isEmpty
  | _ => none
theorem nil_eq {α β : Type} {ds : List α} {xs : List β} (h : xs.length = ds.length) : (!ds.isEmpty) = !xs.isEmpty := by
  cases ds with
  | nil => cases xs with
    | nil => rfl
    | cons _ _ => cases h
  | cons _ _ => cases xs with
    | nil => cases h
    | cons _ _ => rfl
theorem et_tru {d : Dt} {b : Bool} (ha : Eg K S G ta (· = d)) (e : d.tru = some b) : Et K S G (fun σ H Q => ta σ H fun x H' => ∃ k, TruV K x H' k ∧ Q k H') (· = b) := fun B O σ H hh Q k =>
  ha B O σ H hh _ fun v H1 d' hd h1 g1 d1 => by
    subst hd
    refine ⟨b, ?_, k b H1 rfl h1 g1⟩
    cases d' with
    | non => cases e; cases (show v = _ from d1); rfl
    | bl _ => cases e; cases (show v = _ from d1); rfl
    | int _ => cases e; cases (show v = _ from d1); rfl
    | str _ => cases e
    | lst ds =>
      cases e
      obtain ⟨a, xs, rfl, e1, e2⟩ := d1
      refine .inl ⟨xs, SqL.of (hid_ex _ _ _ e1), ?_⟩
      exact nil_eq (DnA.len e2)
    | tup ds =>
      cases e
      obtain ⟨a, xs, rfl, e1, e2⟩ := d1
      refine .inr (.inl ⟨xs, (hid_ex _).sqT e1, ?_⟩)
      exact nil_eq (DnA.len e2)
    | dic _ => cases e
    | dii _ => cases e
    | obj _ _ => cases e
/-! ### objects -/
end
/-- a property -/
structure PrX (P : Program) (w : World) (K : PySem.W.Frag) (mg : Str → Option Value) (base : Heap) (k : Nat) (C : Addr) (f : Str) (sp : Sp) : Prop where
  ex : ∃ (p g : Addr) (fd : FuncData) (ps : List Str), Cls K C ∧ PropOf K C f p g ∧ FnOk P w K mg base CX0 k g fd ps sp ∧ Binds K fd ps []
/-! ### arguments by their number -/
section
variable {ta tb tc td : TE}
theorem ea_1 {x : Dt} (ha : Eg K S G ta (· = x)) : Ea K S G (tCons ta tNil) (· = [x]) := ea_cons ha ea_nil fun _ _ e1 e2 => by rw [e1, e2]
theorem ea_2 {x y : Dt} (ha : Eg K S G ta (· = x)) (hb : Eg K S G tb (· = y)) : Ea K S G (tCons ta (tCons tb tNil)) (· = [x, y]) := ea_cons ha (ea_1 hb) fun _ _ e1 e2 => by rw [e1, e2]
theorem ea_3 {x y z : Dt} (ha : Eg K S G ta (· = x)) (hb : Eg K S G tb (· = y)) (hc : Eg K S G tc (· = z)) : Ea K S G (tCons ta (tCons tb (tCons tc tNil))) (· = [x, y, z]) := ea_cons ha (ea_2 hb hc) fun _ _ e1 e2 => by rw [e1, e2]
theorem ea_4 {x y z u : Dt} (ha : Eg K S G ta (· = x)) (hb : Eg K S G tb (· = y)) (hc : Eg K S G tc (· = z)) (hd : Eg K S G td (· = u)) : Ea K S G (tCons ta (tCons tb (tCons tc (tCons td tNil)))) (· = [x, y, z, u]) := ea_cons ha (ea_3 hb hc hd) fun _ _ e1 e2 => by rw [e1, e2]
theorem ed_tup {tA : TA} {ds : List Dt} (h : Ea K S G tA (· = ds)) (hl : ds.length ≤ 100000 := by simp) : Eg K S G (tTup tA) (· = .tup ds) := eg_tup h fun _ e => by rw [e]; exact ⟨hl, rfl⟩
theorem ed_lst {tA : TA} {ds : List Dt} (h : Ea K S G tA (· = ds)) (hl : ds.length ≤ 100000 := by simp) : Eg K S G (tLst tA) (· = .lst ds) := eg_lst h fun _ e => by rw [e]; exact ⟨hl, rfl⟩
theorem ed_cb {r : List V → Hp → VK → Prop} {tA : TA} {ds : List Dt} {z : Dt} (h : Ea K S G tA (· = ds)) (hr : Rcv K r ds (· = z)) : Eg K S G (tCB r tA) (· = z) := eg_cb h fun _ e => by rw [e]; exact hr
end
end Sb

set_option Elab.async false
set_option linter.all false
set_option maxRecDepth 100000
set_option autoImplicit false
namespace Sb
open PySem PySem.Spec PyProof.Rows L2
variable {K : KX} {S : List Addr} {G : List Sl}
/-- a slot is let go -/
theorem Hold.drop {B : Hp} {O : Ow} {H : Hp} {σ : L2.St} {i : Nat} {d : Dt} (hi : G[i]? = some .un) (h : Hold K B S O (G.set i (.da d)) H σ) : Hold K B S O G H (wipe σ [i]) := by
  have ep : pof O (G.set i (.da d)) = pof O G := pof_set hi rfl
  have hlt : i < G.length := (List.getElem?_eq_some_iff.mp hi).1
  refine ⟨by rw [wipe_length, h.len, List.length_set], fun j s e => ?_, by rw [← ep]; exact h.nd, ?_, by rw [← ep]; exact h.ex, h.oo, h.on, h.tb⟩
  · by_cases hj : j = i
    · subst hj
      rw [hi] at e
      cases e
      have hl : j < σ.length := by rw [h.len, List.length_set]; exact hlt
      refine ⟨none, ?_, trivial⟩
      rw [wipe_get, if_pos (by simp), List.getElem?_eq_getElem hl]
      rfl
    · obtain ⟨o, h1, h2⟩ := h.sl j s (by rw [List.getElem?_set_ne (Ne.symm hj)]; exact e)
      refine ⟨o, ?_, by rw [← ep]; exact h2⟩
      rw [wipe_get, if_neg (by simpa using hj)]
      exact h1
  · rw [← h.ss]
    obtain ⟨e1, e2⟩ := split_at (s' := .da d) hi
    rw [e2]
    conv => lhs; rw [e1]
    unfold srs
    rw [List.filterMap_append, List.filterMap_append, List.filterMap_cons, List.filterMap_cons]
    rfl
theorem Outs.map {Rel : Dt → Option Dt → Prop} {f : Dt → Option Dt} (hf : ∀ d o, Rel d o → o = f d) {ds es : List Dt} (h : Outs Rel ds es) : es = ds.filterMap f := by
  induction h with
  | nil => rfl
  | skip _ r ih =>
    rw [List.filterMap_append, ← ih, List.filterMap_cons, ← hf _ _ r]
    simp
  | add _ r ih =>
    rw [List.filterMap_append, ← ih, List.filterMap_cons, ← hf _ _ r]
    simp
/-- [f d for d in ds] -/
theorem ed_lcMap {wi : TI} {te : TE} {i : Nat} {ds : List Dt} {f : Dt → Dt} (hi : G[i]? = some .un) (hw : Wk K S G wi (· = ds)) (hl : ds.length ≤ 10000) (he : ∀ d ∈ ds, Eg K S (G.set i (.da d)) te (· = f d)) : Eg K S G (tLc wi (gName i) tYes te [i]) (· = .lst (ds.map f)) := by
  refine eg_lc (Rel := fun d o => o = some (f d)) (fun j hj s e => ?_) hw fun ds' e => ?_
  · have : j = i := by simpa using hj
    subst this
    rw [hi] at e
    exact (Option.some.inj e).symm
  · subst e
    refine ⟨hl, fun es h => ?_, fun d hd => ⟨_, (· = true), gg_name hi rfl (by simp), fun B O σ H hh Q k => k true H rfl hh (Gr.refl _ _), fun z => (Bool.false_ne_true z).elim, fun _ => ?_, fun B O H σ hh => hh.drop hi⟩⟩
    · rw [Outs.map (f := fun d => some (f d)) (fun d o r => r) h, List.filterMap_eq_map']
    · exact eg_imp (he d hd) fun _ e => by rw [e]
/-! ### promises told by what the arguments stand for -/
section
variable {al : Type}
def spX (K : KX) (rep : al → List Dt) (ok : al → Prop) (post : al → Dt → Prop) : Sp := fun vs H Q E => ∃ a, ok a ∧ spP K (· = rep a) (fun _ d => post a d) vs H Q E
def spXS (K : KX) (rep : al → List Dt) (ok : al → Prop) (post : al → Dt → Prop) : Sp := fun vs H Q E => ∃ a, ok a ∧ spS K (· = rep a) (fun _ d => post a d) vs H Q E
variable {rep : al → List Dt} {ok : al → Prop} {post : al → Dt → Prop} {out : al → Dt} {E : XK} {tA : TA}
theorem eg_callX {pz : Dt → Prop} (a : al) (h : Ea K S G tA (· = rep a)) (ha : ok a) (hz : ∀ d, post a d → pz d) : Eg K S G (tCall (spX K rep ok post) [] E tA) pz := fun B O σ H hh Q k =>
  h B O σ H hh _ fun vs H1 ds hx h1 g1 d1 => by
    subst hx
    rw [List.append_nil]
    exact ⟨a, ha, _, _, h1.trk, h1.nd, h1.tb, d1, rfl, fun v d H' hp e tb dn => k v H' d (hz d hp) (h1.moreN e tb) (g1.trans (hid_monoN fun a o _ z n => e a o z n)) dn⟩
theorem ed_callX (a : al) (h : Ea K S G tA (· = rep a)) (ha : ok a) : Eg K S G (tCall (spX K rep ok fun a d => d = out a) [] E tA) (· = out a) := eg_callX a h ha fun _ e => e
theorem eg_callXS {px : List Dt → Prop} {pz : Dt → Prop} {i : Nat} {p : Addr} (hi : G[i]? = some (.sr p)) (h : Ea K S G tA px) (ha : ∀ ds, px ds → ∃ a, ds = rep a ∧ ok a ∧ ∀ d, post a d → pz d) :
    Eg K S G (tCall (spXS K rep ok post) [] E (tCons (tVar i) tA)) pz := fun B O σ H hh Q k => by
  obtain ⟨o, e1, rfl, _⟩ := hh.sl i _ hi
  refine ⟨_, e1, ?_⟩
  refine h B O σ H hh _ fun vs H1 ds hx h1 g1 d1 => ?_
  obtain ⟨a, rfl, oka, hz⟩ := ha ds hx
  show spXS K rep ok post ((.ref p :: vs) ++ []) H1 Q E
  rw [List.append_nil]
  have hS : p ∈ S := by rw [← h1.ss]; exact List.mem_filterMap.mpr ⟨_, List.mem_of_getElem? hi, rfl⟩
  have hP : p ∈ pof O G := List.mem_append_right _ (mem_ads hi rfl)
  refine ⟨a, oka, pof O G, p, rep a, vs, rfl, hP, h1.srcAt p hS, h1.trk, h1.nd, h1.tb, d1, rfl, fun v d H' hp sa e tb dn => k v H' d (hz d hp) (h1.subN p hS e sa tb) (g1.trans (hid_monoN fun a o n z nt => e a o (fun q => n (by rw [q]; exact hP)) z nt)) dn⟩
section
variable {P : Program} {w : World} {mg : Str → Option Value} {base : Heap}
theorem fn_x {x qual : Str} {st : Stmt} {f : Addr} {fd : FuncData} {N ps : List Str} {k : Nat} (F : Fun K x qual st f fd) (Sc : FnScope N ps (defScope st)) (hl : ∀ a, (rep a).length = ps.length)
    (hb : ∀ (cdv : Value) (A : Around) (outer : List Env) (s : Shared) (H : Hp) (E : XK), Room k (A.deeper (envOfC qual (defScope st) s.heap.objs.size f cdv)) →
      ∃ t, PSs (cxOf CX0 P w K mg base N qual (defScope st) f cdv A outer s H E).nox (defBody st) t ∧ ∀ a, ok a → Run K [] t (fr0 (rep a) N.length) (fun _ => post a .non) (post a) (fun _ => False)) :
    FnOk P w K mg base CX0 (k + 1) f fd ps (spX K rep ok post) := by
  refine F.ok Sc (fun vs H Q E h => ?_) fun cdv A outer s H vs Q E hr h => ?_
  · obtain ⟨a, _, _, ds, _, _, _, d, rfl, _⟩ := h
    rw [DnA.len d]
    exact hl a
  · obtain ⟨t, h1, h2⟩ := hb cdv A outer s H E hr
    obtain ⟨a, oka, h⟩ := h
    exact ⟨t, h1, endP h fun ds e => by subst e; exact h2 a oka⟩
theorem fn_xs {x qual : Str} {st : Stmt} {f : Addr} {fd : FuncData} {y : Str} {N ps : List Str} {k : Nat} (F : Fun K x qual st f fd) (Sc : FnScope (y :: N) (y :: ps) (defScope st)) (hl : ∀ a, (rep a).length = ps.length)
    (hb : ∀ (cdv : Value) (A : Around) (outer : List Env) (s : Shared) (H : Hp) (E : XK), Room k (A.deeper (envOfC qual (defScope st) s.heap.objs.size f cdv)) →
      ∃ t, PSs (cxOf CX0 P w K mg base (y :: N) qual (defScope st) f cdv A outer s H E).nox (defBody st) t ∧ ∀ p a, ok a → Run K [p] t (.sr p :: fr0 (rep a) N.length) (fun _ => post a .non) (post a) (fun _ => False)) :
    FnOk P w K mg base CX0 (k + 1) f fd (y :: ps) (spXS K rep ok post) := by
  refine F.ok Sc (fun vs H Q E h => ?_) fun cdv A outer s H vs Q E hr h => ?_
  · obtain ⟨a, _, _, p, ds, ws, rfl, _, _, _, _, _, d, rfl, _⟩ := h
    rw [List.length_cons, DnA.len d, hl a]
    rfl
  · obtain ⟨t, h1, h2⟩ := hb cdv A outer s H E hr
    obtain ⟨a, oka, h⟩ := h
    exact ⟨t, h1, endS h fun p ds e => by subst e; exact h2 p a oka⟩
/-- .. where nothing is being shown -/
theorem fnG_x {x qual : Str} {st : Stmt} {f : Addr} {fd : FuncData} {N ps : List Str} {k : Nat} (F : Fun K x qual st f fd) (Sc : FnScope N ps (defScope st)) (hl : ∀ a, (rep a).length = ps.length)
    (hb : ∀ (cdv : Value) (A : Around) (outer : List Env) (s : Shared) (H : Hp) (E : XK), A.guards = some [] → Room k (A.deeper (envOfC qual (defScope st) s.heap.objs.size f cdv)) →
      ∃ t, PSs (cxOf CX0 P w K mg base N qual (defScope st) f cdv A outer s H E).nox (defBody st) t ∧ ∀ a, ok a → Run K [] t (fr0 (rep a) N.length) (fun _ => post a .non) (post a) (fun _ => False)) :
    FnG P w K mg base (k + 1) f fd ps (spX K rep ok post) := by
  refine fun_okG F Sc (fun vs H Q E h => ?_) fun cdv A outer s H vs Q E gd hr h => ?_
  · obtain ⟨a, _, _, ds, _, _, _, d, rfl, _⟩ := h
    rw [DnA.len d]
    exact hl a
  · obtain ⟨t, h1, h2⟩ := hb cdv A outer s H E gd hr
    obtain ⟨a, oka, h⟩ := h
    exact ⟨t, h1, endP h fun ds e => by subst e; exact h2 a oka⟩
theorem fnG_xs {x qual : Str} {st : Stmt} {f : Addr} {fd : FuncData} {y : Str} {N ps : List Str} {k : Nat} (F : Fun K x qual st f fd) (Sc : FnScope (y :: N) (y :: ps) (defScope st)) (hl : ∀ a, (rep a).length = ps.length)
    (hb : ∀ (cdv : Value) (A : Around) (outer : List Env) (s : Shared) (H : Hp) (E : XK), A.guards = some [] → Room k (A.deeper (envOfC qual (defScope st) s.heap.objs.size f cdv)) →
      ∃ t, PSs (cxOf CX0 P w K mg base (y :: N) qual (defScope st) f cdv A outer s H E).nox (defBody st) t ∧ ∀ p a, ok a → Run K [p] t (.sr p :: fr0 (rep a) N.length) (fun _ => post a .non) (post a) (fun _ => False)) :
    FnG P w K mg base (k + 1) f fd (y :: ps) (spXS K rep ok post) := by
  refine fun_okG F Sc (fun vs H Q E h => ?_) fun cdv A outer s H vs Q E gd hr h => ?_
  · obtain ⟨a, _, _, p, ds, ws, rfl, _, _, _, _, _, d, rfl, _⟩ := h
    rw [List.length_cons, DnA.len d, hl a]
    rfl
  · obtain ⟨t, h1, h2⟩ := hb cdv A outer s H E gd hr
    obtain ⟨a, oka, h⟩ := h
    exact ⟨t, h1, endS h fun p ds e => by subst e; exact h2 p a oka⟩
end
end
end Sb

set_option Elab.async false
set_option linter.all false
set_option maxRecDepth 100000
set_option autoImplicit false
namespace Sb
open PySem PySem.Spec PyProof.Rows L2
/-! ### the same rules, the written part named -/
section
variable {X : Cx} {K : PySem.W.Frag}
theorem op_addK (h : X.K = K := by rfl) : OpR X (binaryOp .Add) (rAddA K) := h ▸ op_addA
theorem op_eqK (hu : X.A.units + 64 < cLine) (h : X.K = K := by rfl) : OpR X (compareOp .Eq) (rEqA K) := h ▸ op_eqA hu
theorem op_neK (hu : X.A.units + 64 < cLine) (h : X.K = K := by rfl) : OpR X (compareOp .NotEq) (rNeA K) := h ▸ op_neA hu
theorem ix_anyK (h : X.K = K := by rfl) : IxR X (rIxA K) := h ▸ ix_any
theorem sl_anyK (h : X.K = K := by rfl) : SlR X (rSlA K) := h ▸ sl_any
theorem call_lenK (h : X.K = K := by rfl) : CallR X (.builtin "len") (rLenA K) := h ▸ call_lenA
theorem call_reprK (gd : X.A.guards = some []) (hu : X.A.units + 64 < cLine) (h : X.K = K := by rfl) : CallR X (.builtin "repr") (rRepr K) := h ▸ call_reprD gd hu
theorem pi_anyK {tg l : Expr} {tl : TE} (hl : PE X l tl) (h : X.K = K := by rfl) : PI X tg l (iAny K tl) := h ▸ pi_any hl
def rJoin (K : PySem.W.Frag) : V → List V → Hp → VK → Prop := fun x xs H Q => ∃ a p, ∃ ys : List Str, x = .str a ∧ xs = [.ref p] ∧ (SqL K H p (ys.map V.str) ∨ SqT K H p (ys.map V.str)) ∧ (ys.map (·.length)).sum + ys.length * a.length ≤ 16777216 ∧ Q (.str (Txt.join a ys)) H
end
/-! ### what may be called -/
structure Cal (P : Program) (w : World) (K : PySem.W.Frag) (mg : Str → Option Value) (base : Heap) (k : Nat) (x : Str) (sp : Sp) : Prop where
  ex : ∃ (f : Addr) (fd : FuncData) (ps : List Str),
    FnOk P w K mg base CX0 k f fd ps sp ∧ mg x = some (.ref f) ∧ PySem.W.keepIn K (.ref f) = true ∧ Binds K fd ps []
structure CalG (P : Program) (w : World) (K : PySem.W.Frag) (mg : Str → Option Value) (base : Heap) (k : Nat) (x : Str) (sp : Sp) : Prop where
  ex : ∃ (f : Addr) (fd : FuncData) (ps : List Str),
    FnG P w K mg base k f fd ps sp ∧ mg x = some (.ref f) ∧ PySem.W.keepIn K (.ref f) = true ∧ Binds K fd ps []
structure Mak (P : Program) (w : World) (K : PySem.W.Frag) (mg : Str → Option Value) (base : Heap) (k : Nat) (x : Str) (C : Addr) (sp : Sp) : Prop where
  ex : ∃ (f : Addr) (fd : FuncData) (ps : List Str), Mk K C f ∧ FnOk P w K mg base CX0 k f fd ps sp ∧ mg x = some (.ref C) ∧ Binds K fd ps []
structure Met (P : Program) (w : World) (K : PySem.W.Frag) (mg : Str → Option Value) (base : Heap) (k : Nat) (C : Addr) (m : Str) (sp : Sp) : Prop where
  ex : ∃ (f : Addr) (fd : FuncData) (ps : List Str), Cls K C ∧ Meth K C m f ∧ FnOk P w K mg base CX0 k f fd ps sp ∧ Binds K fd ps []
section
variable {X : Cx} {j k : Nat} {x m : Str} {sp : Sp} {C : Addr} {p pos apos : Pos} {e o : Expr} {es : List Expr} {t : TA} {ta : TE}
theorem pe_gc {v : V} (hg : Gl X x) (h : ∃ u, X.mg x = some u ∧ RelV v u) (hd : (x == ("__debug__" : Str)) = false := by decide) : PE X (.Name x pos) (tC v) := by
  obtain ⟨u, h1, h2⟩ := h
  exact pe_glob hg h1 h2 hd
theorem pe_c (c : Cal X.prog X.w X.K X.mg X.base k x sp) (hr : Room j X.A) (hk : k ≤ j) (hg : Gl X x) (ha : PA X (e :: es) t) (hdb : (x == ("__debug__" : Str)) = false := by decide)
    (he : starEach (e :: es) X.env = (false, eval e X.env) :: starEach es X.env := by rfl) (hpl : (backTo pos (starEach es X.env)).any (·.1) = false := by rfl) :
    PE X (.Call (.Name x p) (e :: es) [] pos) (tCall sp [] E0 t) := by
  obtain ⟨f, fd, ps, F, hm, kp, b⟩ := c.ex
  exact pe_call F (hr.mono hk) hg hm kp b .nil pass0 ha hdb he hpl
theorem pe_cG (c : CalG X.prog X.w X.K X.mg X.base k x sp) (gd : X.A.guards = some []) (hr : Room j X.A) (hk : k ≤ j) (hg : Gl X x) (ha : PA X (e :: es) t) (hdb : (x == ("__debug__" : Str)) = false := by decide)
    (he : starEach (e :: es) X.env = (false, eval e X.env) :: starEach es X.env := by rfl) (hpl : (backTo pos (starEach es X.env)).any (·.1) = false := by rfl) :
    PE X (.Call (.Name x p) (e :: es) [] pos) (tCall sp [] E0 t) := by
  obtain ⟨f, fd, ps, F, hm, kp, b⟩ := c.ex
  exact pe_callG F gd (hr.mono hk) hg hm kp b ha hdb he hpl
end
end Sb

set_option Elab.async false
set_option linter.all false
set_option maxRecDepth 100000
set_option autoImplicit false
namespace Sb
open PySem PySem.Spec PyProof.Rows L2 TL
/-! ### names, numbers, parts: the texts -/
def sLetters : Str := "abcdefghijklmnopqrstuvwxyz"
def sDigits : Str := "0123456789"
abbrev cs (x : Str) : List Nat := x.cps.toList
def isLet (c : Nat) : Prop := 97 ≤ c ∧ c ≤ 122
def isDig (c : Nat) : Prop := 48 ≤ c ∧ c ≤ 57
structure NameOk (x : Str) : Prop where
  ex : ∃ c r, cs x = c :: r ∧ isLet c ∧ (∀ d ∈ r, isLet d ∨ isDig d) ∧ r.length ≤ 7
theorem len_cs (x : Str) : x.length = (cs x).length := by simp [Str.length]
theorem NameOk.len {x : Str} (h : NameOk x) : 1 ≤ x.length ∧ x.length ≤ 8 := by
  obtain ⟨c, r, e, _, _, hl⟩ := h.ex
  rw [len_cs, e, List.length_cons]
  omega
theorem NameOk.all {x : Str} (h : NameOk x) : ∀ d ∈ cs x, isLet d ∨ isDig d := by
  obtain ⟨c, r, e, h1, h2, _⟩ := h.ex
  rw [e]
  intro d hd
  rcases List.mem_cons.mp hd with z | z
  · subst z; exact .inl h1
  · exact h2 d z
def num (n : Nat) : Str := Str.ofString (toString (n : Int))
theorem cs_num (n : Nat) : cs (num n) = numL n := tl_num n
theorem num_dig (n : Nat) : ∀ d ∈ cs (num n), isDig d := fun d hd => by
  rw [cs_num] at hd
  unfold isDig
  by_cases h : d < 48 ∨ 57 < d
  · exact absurd hd (numL_free h)
  · omega
theorem num_len {n : Nat} (h : n ≤ 1000000000000) : (num n).length ≤ 13 := by
  rw [len_cs, cs_num]
  exact numL_len (by decide) (Nat.lt_of_le_of_lt h (by decide))
inductive Pt where
  | nm (x : Str) | nu (n : Nat)
def Pt.txt : Pt → Str
  | .nm x => x
  | .nu n => num n
def Pt.d : Pt → Dt
  | .nm x => .str x
  | .nu n => .int (n : Int)
def Pt.ok (ns : List Str) : Pt → Prop
  | .nm x => x ∈ ns
  | .nu n => n ≤ 1000000000000
def NamesOk (ns : List Str) : Prop := ∀ x ∈ ns, NameOk x
/-- plain words: signs that are letters, digits, < or = -/
def Word (x : Str) : Prop := (∀ d ∈ cs x, d ≠ 32 ∧ d ≠ 58 ∧ d ≠ 10) ∧ x.length ≤ 20
theorem word_name {x : Str} (h : NameOk x) : Word x := ⟨fun d hd => by
  rcases h.all d hd with z | z
  · unfold isLet at z; omega
  · unfold isDig at z; omega, by have := h.len; omega⟩
theorem word_num {n : Nat} (h : n ≤ 1000000000000) : Word (num n) := ⟨fun d hd => by
  have z := num_dig n d hd
  unfold isDig at z; omega, by have := num_len h; omega⟩
theorem Pt.word {ns : List Str} (hn : NamesOk ns) {p : Pt} (h : p.ok ns) : Word p.txt := by
  cases p with
  | nm x => exact word_name (hn x h)
  | nu n => exact word_num h
/-! words with a blank between -/
def sp1 : Str := " "
def jn (ws : List Str) : Str := Txt.join sp1 ws
end Sb

set_option Elab.async false
set_option linter.all false
set_option maxRecDepth 100000
set_option autoImplicit false
namespace Sb
open PySem PySem.Spec PyProof.Rows L2 TL
variable {K : KX} {S : List Addr} {G : List Sl} {N Bk : List Sl → Prop} {R : Dt → Prop} {t1 t2 t3 : TS} {tt : TT} {te : TE}
/-! ### statements one after the other, what they give being known -/
theorem q_set {i : Nat} {s : Sl} {d : Dt} (h : Eg K S G te (· = d)) (k : Run K S t2 (G.set i (.da d)) N R Bk) (hi : G[i]? = some s := by rfl) (hs : s.ad = none := by rfl) : Run K S (tSeq (tAsg te (gName i)) t2) G N R Bk :=
  run_seq (N1 := (· = G.set i (.da d))) (run_set h hi hs fun _ e => by rw [e]) fun _ e => by rw [e]; exact k
theorem q_setP {i : Nat} {s : Sl} {p : Dt → Prop} (h : Eg K S G te p) (k : ∀ d, p d → Run K S t2 (G.set i (.da d)) N R Bk) (hi : G[i]? = some s := by rfl) (hs : s.ad = none := by rfl) : Run K S (tSeq (tAsg te (gName i)) t2) G N R Bk :=
  run_seq (N1 := fun g => ∃ d, p d ∧ g = G.set i (.da d)) (run_set h hi hs fun d e => ⟨d, e, rfl⟩) fun _ ⟨d, e, z⟩ => by rw [z]; exact k d e
theorem q_no (h : Et K S G tt (· = false)) (k : Run K S t2 G N R Bk) : Run K S (tSeq (tIfS tt t1 tNext) t2) G N R Bk :=
  run_seq (N1 := (· = G)) (run_if h (fun z => (Bool.false_ne_true z.symm).elim) fun _ => run_next rfl) fun _ e => by rw [e]; exact k
theorem q_yes (h : Et K S G tt (· = true)) (k : Run K S t1 G (fun _ => False) R Bk) : Run K S (tSeq (tIfS tt t1 t3) t2) G N R Bk :=
  run_seq (N1 := fun _ => False) (run_if h (fun _ => k) fun z => (Bool.false_ne_true z).elim) fun _ e => e.elim
/-- only an if at the end, its answer no -/
theorem l_no (h : Et K S G tt (· = false)) (k : N G) : Run K S (tIfS tt t1 tNext) G N R Bk := run_if h (fun z => (Bool.false_ne_true z.symm).elim) fun _ => run_next k
theorem et_eq {b c : Bool} (h : Et K S G tt (· = b)) (e : b = c) : Et K S G tt (· = c) := e ▸ h
theorem eg_eq {b c : Dt} (h : Eg K S G te (· = b)) (e : b = c) : Eg K S G te (· = c) := e ▸ h
/-! ### conditions, deeds, rows -/
theorem decW (x : Str) : Word x ↔ ((cs x).all fun d => decide (d ≠ 32 ∧ d ≠ 58 ∧ d ≠ 10)) = true ∧ x.length ≤ 20 := by
  unfold Word
  rw [List.all_eq_true]
  simp only [decide_eq_true_eq]
def sIf : Str := "if"
def sSell : Str := "sell"
def sAt : Str := "at"
def sKeep : Str := "keep"
def sLt : Str := "<"
def sLe : Str := "<="
theorem w_if : Word sIf := (decW _).mpr (by decide +kernel)
theorem w_sell : Word sSell := (decW _).mpr (by decide +kernel)
theorem w_at : Word sAt := (decW _).mpr (by decide +kernel)
theorem w_keep : Word sKeep := (decW _).mpr (by decide +kernel)
theorem w_lt : Word sLt := (decW _).mpr (by decide +kernel)
theorem w_le : Word sLe := (decW _).mpr (by decide +kernel)
structure Cond where
  p : Pt
  st : Bool
  q : Pt
def Cond.sg (c : Cond) : Str := if c.st then sLt else sLe
def Cond.ws (c : Cond) : List Str := [sIf, c.p.txt, c.sg, c.q.txt]
def Cond.txt (c : Cond) : Str := jn c.ws
def Cond.d (c : Cond) : Dt := .tup [c.p.d, .str c.sg, c.q.d]
def Cond.ok (ns : List Str) (c : Cond) : Prop := c.p.ok ns ∧ c.q.ok ns
theorem Cond.sgw (c : Cond) : Word c.sg := by
  unfold Cond.sg
  cases c.st
  · exact w_le
  · exact w_lt
theorem Cond.words {ns : List Str} (hn : NamesOk ns) {c : Cond} (h : c.ok ns) : ∀ x ∈ c.ws, Word x := fun x hx => by
  unfold Cond.ws at hx
  simp only [List.mem_cons, List.not_mem_nil, or_false] at hx
  rcases hx with rfl | rfl | rfl | rfl
  · exact w_if
  · exact Pt.word hn h.1
  · exact c.sgw
  · exact Pt.word hn h.2
inductive Who where
  | seat (x : Str) | place (k : Nat)
def Who.txt : Who → Str
  | .seat x => x
  | .place k => num k
def Who.d : Who → Dt
  | .seat x => .str x
  | .place k => .int (k : Int)
def Who.ok (seats : List Str) : Who → Prop
  | .seat x => x ∈ seats
  | .place k => 1 ≤ k ∧ k ≤ seats.length
inductive Deed where
  | keep | sell (w : Who) (p : Pt)
def Deed.ws : Deed → List Str
  | .keep => [sKeep]
  | .sell w p => [sSell, w.txt, sAt, p.txt]
def Deed.txt (d : Deed) : Str := jn d.ws
def Deed.d : Deed → Dt
  | .keep => .tup [.str sKeep]
  | .sell w p => .tup [.str sSell, w.d, p.d]
def Deed.ok (seats ns : List Str) : Deed → Prop
  | .keep => True
  | .sell w p => w.ok seats ∧ p.ok ns
theorem Who.word {seats : List Str} (hn : NamesOk seats) (hl : seats.length ≤ 9) {w : Who} (h : w.ok seats) : Word w.txt := by
  cases w with
  | seat x => exact word_name (hn x h)
  | place k => exact word_num (by have := h.2; omega)
theorem Deed.words {seats ns : List Str} (hs : NamesOk seats) (hl : seats.length ≤ 9) (hn : NamesOk ns) {d : Deed} (h : d.ok seats ns) : ∀ x ∈ d.ws, Word x := fun x hx => by
  cases d with
  | keep =>
    have : x = sKeep := by simpa [Deed.ws] using hx
    subst this
    exact w_keep
  | sell w p =>
    simp only [Deed.ws, List.mem_cons, List.not_mem_nil, or_false] at hx
    rcases hx with rfl | rfl | rfl | rfl
    · exact w_sell
    · exact Who.word hs hl h.1
    · exact w_at
    · exact Pt.word hn h.2
structure Row where
  c : Option Cond
  d : Deed
def sColon : Str := ": "
def Row.txt (r : Row) : Str := match r.c with
  | none => r.d.txt
  | some c => c.txt ++ sColon ++ r.d.txt
def Row.dt (r : Row) : Dt := .tup [match r.c with | none => .non | some c => c.d, r.d.d]
def Row.ok (seats ns : List Str) (r : Row) : Prop := r.d.ok seats ns ∧ ∀ c, r.c = some c → c.ok ns
end Sb

set_option Elab.async false
set_option linter.all false
set_option maxRecDepth 100000
set_option autoImplicit false
namespace Sb
open PySem PySem.Spec PyProof.Rows L2 TL
variable {K : KX} {S : List Addr} {G : List Sl} {N Bk : List Sl → Prop} {R : Dt → Prop}
/-- a for at which nothing is left behind but what stands told -/
theorem run_forD {wi : TI} {g : TG} {tb : TS} {ds : List Dt} (I : Nat → List Sl → Prop) (hw : Wk K S G wi (· = ds)) (i0 : I 0 G)
    (step : ∀ i d G1, ds[i]? = some d → I i G1 → ∃ W G2, Gg K S G1 g d W G2 ∧ Run K S tb G2 (I (i + 1)) R N) (fin : ∀ G1, I ds.length G1 → N G1) : Run K S (tFor wi g tb) G N R Bk :=
  run_for hw fun es e => by subst e; exact ⟨I, i0, step, fin⟩
end Sb

set_option Elab.async false
set_option linter.all false
set_option maxRecDepth 100000
set_option autoImplicit false
namespace Sb
open PySem PySem.Spec PyProof.Rows L2 TL
def top (i : Nat) : Stmt := PySem.Challenge.pw_salebids_k01_constants_and_errors.main.body.getD i (.Pass ⟨0, 0, 0, 0⟩)
/-! ### what the module's names hold -/
structure Bf (K : PySem.W.Frag) (mg : Str → Option Value) (aS aO : Addr) : Prop where
  n_isinstance : mg "isinstance" = none
  n_int : mg "int" = none
  n_bool : mg "bool" = none
  n_str : mg "str" = none
  n_tuple : mg "tuple" = none
  n_list : mg "list" = none
  n_len : mg "len" = none
  n_all : mg "all" = none
  n_range : mg "range" = none
  n_enumerate : mg "enumerate" = none
  n_zip : mg "zip" = none
  n_dict : mg "dict" = none
  n_abs : mg "abs" = none
  n_max : mg "max" = none
  n_min : mg "min" = none
  n_divmod : mg "divmod" = none
  n_repr : mg "repr" = none
  g_MOST_SEATS : ∃ u, mg "MOST_SEATS" = some u ∧ RelV (.int 4) u
  g_MOST_LINES : ∃ u, mg "MOST_LINES" = some u ∧ RelV (.int 8) u
  g_MOST_ROWS : ∃ u, mg "MOST_ROWS" = some u ∧ RelV (.int 6) u
  g_MOST_PARTS : ∃ u, mg "MOST_PARTS" = some u ∧ RelV (.int 6) u
  g_MOST_RING : ∃ u, mg "MOST_RING" = some u ∧ RelV (.int 3) u
  g_MOST_INTEGER : ∃ u, mg "MOST_INTEGER" = some u ∧ RelV (.int 1000000000000) u
  g_MOST_CHANGES : ∃ u, mg "MOST_CHANGES" = some u ∧ RelV (.int 6) u
  n_ValueError : mg "ValueError" = none
  n_LookupError : mg "LookupError" = none
  n_ArithmeticError : mg "ArithmeticError" = none
section
variable {P : Program} {w : World} {K : KX} {mg : Str → Option Value} {base : Heap} {aS aO : Addr}
end
end Sb

set_option Elab.async false
set_option linter.all false
set_option maxRecDepth 100000
set_option autoImplicit false
namespace Sb
open PySem PySem.Spec PyProof.Rows L2 TL
variable {K : KX} {S : List Addr} {G : List Sl}
/-! ### an object is made -/
theorem hold_seq {B : Hp} {O : Ow} {H : Hp} {σ : L2.St} {D : Ends} {t1 t2 : TS} {N1 : List Sl → Prop} (h1 : Run K S t1 G N1 (fun _ => False) (fun _ => False)) (hh : Hold K B S O G H σ)
    (k : ∀ G' σ' H', N1 G' → Hold K B S O G' H' σ' → t2 D σ' H') : tSeq t1 t2 D σ H := h1 B O { D with nx := t2 D } σ H hh k (fun _ _ _ r => r.elim) (fun _ _ _ r => r.elim)
section
variable {al : Type}
def spI (K : KX) (C : Addr) (rep : al → List Dt) (ok : al → Prop) (out : al → List (Str × Dt)) : Sp := fun vs H Q _ => ∃ a, ok a ∧ ∃ P x dx ws, vs = .ref x :: ws ∧ H x = some (.ins C dx []) ∧ x ∉ P ∧ Trk P H ∧ P.Nodup ∧ Tb K H ∧ DnA K (hid H (x :: P)) (rep a) ws ∧
  ∀ H', (∀ b o, b ≠ x → H b = some o → NT o → H' b = some o) → Tb K H' → Dn K (hid H' P) (.obj C (out a)) (.ref x) → Q .non H'
variable {rep : al → List Dt} {ok : al → Prop} {out : al → List (Str × Dt)} {C : Addr}
variable {P : Program} {w : World} {mg : Str → Option Value} {base : Heap}
end
end Sb

set_option Elab.async false
set_option linter.all false
set_option maxRecDepth 100000
set_option autoImplicit false
namespace Sb
open PySem PySem.Spec PyProof.Rows L2 TL
/-! ### dict(zip(s, t)) of two tuples: the pair that zip gave out before is still there -/
section
variable {prog : Program} {w : World} {A : Around} {E : Value → Shared → Prop} {s : Shared} {z TI TO T i1 i2 : Addr} {fp1 fp2 : List Addr} {n1 n2 i : Nat} {P1 P2 : Nat → Value → Prop} {St1 St2 : Nat → Heap → Prop} {f : Bool} {oT : Obj}
end
end Sb

set_option Elab.async false
set_option linter.all false
set_option maxRecDepth 100000
set_option autoImplicit false
namespace Sb
open PySem PySem.Spec PyProof.Rows L2 TL
/-! ### dict(zip(s, t)) -/
def kvz (xs : List Str) (ys : List V) : List (Key × V) := (xs.zip ys).map fun p => (Sum.inr p.1, p.2)
def kvu (xs : List Str) (ys : List Value) : List (Key × Value) := (xs.zip ys).map fun p => (Sum.inr p.1, p.2)
def tDz (K : PySem.W.Frag) (ta : TA) : TE := fun σ H Q => ta σ H fun vs H1 => ∃ (a b : Addr) (xs : List Str) (ys : List V), vs = [.ref a, .ref b] ∧ SqT K H1 a (xs.map V.str) ∧ SqT K H1 b ys ∧ ∀ p, H1 p = none → Q (.ref p) (upd H1 p (.dK (mergeK [] (kvz xs ys))))
end Sb

set_option Elab.async false
set_option linter.all false
set_option maxRecDepth 100000
set_option autoImplicit false
namespace Sb
open PySem PySem.Spec PyProof.Rows L2 TL
/-! ### for a, b in zip(l, t), l a list, t a tuple -/
def ItzX (K : PySem.W.Frag) (a b : Addr) : It :=
  ⟨fun i H => ∃ (xs ys : List V) (x y : V), SqL K H a xs ∧ SqT K H b ys ∧ xs[i]? = some x ∧ ys[i]? = some y,
    fun i H v H' => ∃ T x y, v = .ref T ∧ H T = none ∧ H' = upd H T (.tup [x, y]) ∧ (∀ xs, SqL K H a xs → xs[i]? = some x) ∧ ∀ ys, SqT K H b ys → ys[i]? = some y,
    fun i H => ∃ xs ys : List V, SqL K H a xs ∧ SqT K H b ys ∧ i ≤ xs.length ∧ i ≤ ys.length ∧ (i = xs.length ∨ i = ys.length)⟩
def iZipX (K : PySem.W.Frag) (ta : TA) : TI := fun σ H R => ta σ H fun vs H1 => ∃ a b xs ys, vs = [.ref a, .ref b] ∧ SqL K H1 a xs ∧ SqT K H1 b ys ∧ R (ItzX K a b) H1
/-! ### what they give -/
variable {K : KX} {S : List Addr} {G : List Sl}
def zipD (xs ys : List Dt) : List Dt := (xs.zip ys).map fun p => .tup [p.1, p.2]
end Sb

set_option Elab.async false
set_option linter.all false
set_option maxRecDepth 100000
set_option autoImplicit false
namespace Sb
open PySem PySem.Spec PyProof.Rows L2 TL
variable {K : KX} {S : List Addr} {G : List Sl}
/-! ### slots let go -/
section
variable {B : Hp} {O : Ow} {H : Hp} {σ : L2.St}
end
section
variable {ts : TS} {N Bk : List Sl → Prop} {R : Dt → Prop}
/-! ### two, three at once -/
theorem run_par {ta tb : TE} {i j : Nat} {s t : Sl} {p q : Dt → Prop} (ha : Eg K S G ta p) (hb : Eg K S G tb q) (hi : G[i]? = some s) (hs : s.ad = none) (hj : G[j]? = some t) (ht : t.ad = none) (hij : i ≠ j)
    (hn : ∀ d e, p d → q e → N ((G.set i (.da d)).set j (.da e))) : Run K S (tPar i j (tCons ta (tCons tb tNil))) G N R Bk := fun B O D σ H hh a b c =>
  ha B O σ H hh _ fun v H1 d hd h1 g1 d1 => hb B O σ H1 h1 _ fun w H2 e he h2 g2 d2 => by
    have h3 := h2.set (d := d) (v := v) hi hs (Dn.mono g2 d d1)
    have ep : pof O (G.set i (.da d)) = pof O G := pof_set hi hs
    have hj2 : (G.set i (.da d))[j]? = some t := by rw [List.getElem?_set_ne hij]; exact hj
    exact ⟨v, w, rfl, a _ _ _ (hn d e hd he) (h3.set hj2 ht (by rw [ep]; exact d2))⟩
/-! ### the source of draws -/
theorem srcS {B : Hp} {O : Ow} {H : Hp} {σ : L2.St} (hh : Hold K B S O G H σ) {i : Nat} {p : Addr} (hi : G[i]? = some (.sr p)) : p ∈ S := by rw [← hh.ss]; exact List.mem_filterMap.mpr ⟨_, List.mem_of_getElem? hi, rfl⟩
def isI (d : Dt) : Prop := ∃ k, d = .int k
theorem eg_src {i : Nat} {p : Addr} {j : Int} (hi : G[i]? = some (.sr p)) (hj : j = 0 ∨ j = 1 ∨ j = 2) : Eg K S G (tOp (rIxA K) (tVar i) (tC (.int j))) isI := fun B O σ H hh Q k => by
  obtain ⟨o, e1, rfl, x, y, z, e2⟩ := hh.sl i _ hi
  refine ⟨_, e1, .inl ?_⟩
  rcases hj with rfl | rfl | rfl
  · exact ⟨p, _, 0, .int x, rfl, rfl, SqL.of e2, rfl, k _ _ (.int x) ⟨x, rfl⟩ hh (Gr.refl _ _) rfl⟩
  · exact ⟨p, _, 1, .int y, rfl, rfl, SqL.of e2, rfl, k _ _ (.int y) ⟨y, rfl⟩ hh (Gr.refl _ _) rfl⟩
  · exact ⟨p, _, 2, .int z, rfl, rfl, SqL.of e2, rfl, k _ _ (.int z) ⟨z, rfl⟩ hh (Gr.refl _ _) rfl⟩
theorem src_put {H : Hp} {p : Addr} {x y z k j : Int} (hj : j = 0 ∨ j = 1 ∨ j = 2) : ∃ n, ixN ([V.int x, .int y, .int z] : List V).length j = some n ∧ SrcAt (upd H p (.lst (([V.int x, .int y, .int z] : List V).set n (.int k)))) p := by
  rcases hj with rfl | rfl | rfl
  · exact ⟨0, rfl, k, y, z, upd_same⟩
  · exact ⟨1, rfl, x, k, z, upd_same⟩
  · exact ⟨2, rfl, x, y, k, upd_same⟩
theorem run_srcSet {te : TE} {i : Nat} {p : Addr} {j : Int} (hi : G[i]? = some (.sr p)) (hj : j = 0 ∨ j = 1 ∨ j = 2) (he : Eg K S G te isI) (hn : N G) : Run K S (tAsg te (gSub (tVar i) (tC (.int j)) rSetL)) G N R Bk := fun B O D σ H hh a b c =>
  he B O σ H hh _ fun v H1 d hd h1 g1 d1 => by
    obtain ⟨k, rfl⟩ := hd
    cases (show v = _ from d1)
    obtain ⟨o, e1, rfl, x, y, z, e2⟩ := h1.sl i _ hi
    obtain ⟨n, e3, e4⟩ := src_put (H := H1) (p := p) (x := x) (y := y) (z := z) (k := k) hj
    exact ⟨_, e1, p, _, j, n, rfl, rfl, e2, e3, a _ _ _ hn (h1.sub p (srcS h1 hi) (fun b o nb e => by rw [upd_ne nb]; exact e) e4)⟩
theorem run_srcDm {te : TE} {i l : Nat} {p : Addr} {s : Sl} {q : Int → Prop} (hi : G[i]? = some (.sr p)) (hl : G[l]? = some s) (hs : s.ad = none) (he : Eg K S G te (fun d => ∃ m r, d = .tup [.int m, .int r] ∧ q r)) (hn : ∀ r, q r → N (G.set l (.da (.int r)))) :
    Run K S (tAsg te (gTup K 2 (gCons (gSub (tVar i) (tC (.int 0)) rSetL) (gCons (gName l) gNil)))) G N R Bk := fun B O D σ H hh a b c =>
  he B O σ H hh _ fun v H1 d hd h1 g1 d1 => by
    obtain ⟨m, r, rfl, hq⟩ := hd
    obtain ⟨t, xs, rfl, t1, v1, r1, rfl, d1, v2, r2, rfl, d2, e3⟩ := d1
    cases (show r2 = [] from e3)
    cases (show v1 = _ from d1)
    cases (show v2 = _ from d2)
    obtain ⟨o, e1, rfl, x, y, z, e2⟩ := h1.sl i _ hi
    obtain ⟨n, e3, e4⟩ := src_put (H := H1) (p := p) (x := x) (y := y) (z := z) (k := m) (j := 0) (.inl rfl)
    have h2 := h1.sub p (srcS h1 hi) (fun b o nb e => by rw [upd_ne nb]; exact e) e4
    exact ⟨t, _, rfl, (hid_ex _).sqT t1, rfl, .int m, [.int r], rfl, _, e1, p, _, 0, n, rfl, rfl, e2, e3, .int r, [], rfl, rfl, a _ _ _ (hn r hq) (h2.set hl hs rfl)⟩
theorem rc_dm {i j : Int} {pz : Dt → Prop} (hc : CDiv i j) (h : pz (.tup [.int (i / j), .int (i % j)])) : Rcv K (fun xs H Q => ∃ i j, xs = [.int i, .int j] ∧ CDiv i j ∧ ∀ p, H p = none → Q (.ref p) (upd H p (.tup [.int (i / j), .int (i % j)]))) [.int i, .int j] pz := fun P H vs Q t dn k => by
  obtain ⟨v, r, rfl, d1, v2, r2, rfl, d2, e3⟩ := dn
  cases (show r2 = [] from e3)
  cases (show v = _ from d1)
  cases (show v2 = _ from d2)
  exact ⟨i, j, rfl, hc, fun p hp => k _ _ _ h (new_ex hp) (new_tup t hp ⟨_, _, rfl, rfl, _, _, rfl, rfl, rfl⟩)⟩
end
/-! ### ints -/
section
variable {ta tb : TE}
theorem ea_1p {px : Dt → Prop} (ha : Eg K S G ta px) : Ea K S G (tCons ta tNil) (fun ds => ∃ x, px x ∧ ds = [x]) := ea_cons ha ea_nil fun x _ e1 e2 => ⟨x, e1, by rw [e2]⟩
theorem ea_2p {px py : Dt → Prop} (ha : Eg K S G ta px) (hb : Eg K S G tb py) : Ea K S G (tCons ta (tCons tb tNil)) (fun ds => ∃ x y, px x ∧ py y ∧ ds = [x, y]) := ea_cons ha (ea_1p hb) fun x _ e1 ⟨y, e2, e3⟩ => ⟨x, y, e1, e2, by rw [e3]⟩
theorem ei_int {p : Int → Prop} (ha : Eg K S G ta (fun d => ∃ k, d = .int k ∧ p k)) : Eg K S G (tCB rIntA (tCons ta tNil)) (fun d => ∃ k, d = .int k ∧ p k) := eg_cb (ea_1p ha) fun ds ⟨x, ⟨k, hk, hp⟩, e⟩ => by
  subst e
  subst hk
  exact rc_intI ⟨k, rfl, hp⟩
theorem ei_of (h : Eg K S G ta isI) : Eg K S G ta (fun d => ∃ k, d = .int k ∧ True) := eg_imp h fun d ⟨k, e⟩ => ⟨k, e, trivial⟩
theorem ei_to {p : Int → Prop} (h : Eg K S G ta (fun d => ∃ k, d = .int k ∧ p k)) : Eg K S G ta isI := eg_imp h fun d ⟨k, e, _⟩ => ⟨k, e⟩
theorem ei_eq {k : Int} (h : Eg K S G ta (· = .int k)) : Eg K S G ta (fun d => ∃ j, d = .int j ∧ j = k) := eg_imp h fun d e => ⟨k, e, rfl⟩
theorem ei_opI {g : Int → Int → Int} {p q r : Int → Prop} (ha : Eg K S G ta (fun d => ∃ k, d = .int k ∧ p k)) (hb : Eg K S G tb (fun d => ∃ k, d = .int k ∧ q k)) {C : Int → Int → Prop} (hc : ∀ i j, p i → q j → C i j) (hr : ∀ i j, p i → q j → r (g i j)) :
    Eg K S G (tOp (rI C fun i j => .int (g i j)) ta tb) (fun d => ∃ k, d = .int k ∧ r k) := eg_op ha hb fun x y ⟨i, ei, hi⟩ ⟨j, ej, hj⟩ => by
  subst ei ej
  exact fun P H v w Q t d1 d2 k => ⟨i, j, d1, d2, hc i j hi hj, rv_out k ⟨_, rfl, hr i j hi hj⟩ rfl⟩
theorem ei_add {p q r : Int → Prop} (ha : Eg K S G ta (fun d => ∃ k, d = .int k ∧ p k)) (hb : Eg K S G tb (fun d => ∃ k, d = .int k ∧ q k)) (hr : ∀ i j, p i → q j → r (i + j)) : Eg K S G (tOp (rAddA K) ta tb) (fun d => ∃ k, d = .int k ∧ r k) := eg_op ha hb fun x y ⟨i, ei, hi⟩ ⟨j, ej, hj⟩ => by
  subst ei ej
  exact r2_addI ⟨_, rfl, hr i j hi hj⟩
theorem ed_mod {i j : Int} (ha : Eg K S G ta (· = .int i)) (hb : Eg K S G tb (· = .int j)) (hj : 0 < j) : Eg K S G (tOp (rI (fun _ j => 0 < j) fun i j => .int (i % j)) ta tb) (· = .int (i % j)) := ed_op ha hb fun P H v w Q t d1 d2 k => ⟨i, j, d1, d2, hj, rv_out k rfl rfl⟩
theorem ed_mul {i j : Int} (ha : Eg K S G ta (· = .int i)) (hb : Eg K S G tb (· = .int j)) (hc : CMul i j) : Eg K S G (tOp (rI CMul fun i j => .int (i * j)) ta tb) (· = .int (i * j)) := ed_op ha hb fun P H v w Q t d1 d2 k => ⟨i, j, d1, d2, hc, rv_out k rfl rfl⟩
theorem ed_pow {i j : Int} (ha : Eg K S G ta (· = .int i)) (hb : Eg K S G tb (· = .int j)) (hc : CPow i j) : Eg K S G (tOp (rI CPow fun i j => .int (i ^ j.toNat)) ta tb) (· = .int (i ^ j.toNat)) := ed_op ha hb fun P H v w Q t d1 d2 k => ⟨i, j, d1, d2, hc, rv_out k rfl rfl⟩
theorem et_gt {p q : Int → Prop} {r : Bool → Prop} (ha : Eg K S G ta (fun d => ∃ k, d = .int k ∧ p k)) (hb : Eg K S G tb (fun d => ∃ k, d = .int k ∧ q k)) (hr : ∀ i j, p i → q j → r (decide (i > j))) : Et K S G (tTest (tOp (rI0 fun i j => .bl (decide (i > j))) ta tb)) r := et_tst (eg_op ha hb fun x y ⟨i, ei, hi⟩ ⟨j, ej, hj⟩ => by
  subst ei ej
  exact fun P H v w Q t d1 d2 k => ⟨i, j, d1, d2, rv_out k ⟨_, rfl, hr i j hi hj⟩ rfl⟩)
end
end Sb

set_option Elab.async false
set_option linter.all false
set_option maxRecDepth 100000
set_option autoImplicit false
namespace Sb
open PySem PySem.Spec PyProof.Rows L2 TL
/-! ### t[::2], t of three -/
section
variable {prog : Program} {w : World} {A : Around} {E : Value → Shared → Prop} {s : Shared}
end
def tStep2 (K : PySem.W.Frag) (te : TE) : TE := fun σ H Q => te σ H fun x H1 => ∃ a u v w, x = .ref a ∧ SqT K H1 a [u, v, w] ∧ ∀ p, H1 p = none → Q (.ref p) (upd H1 p (.tup [u, w]))
variable {K : KX} {S : List Addr} {G : List Sl}
/-! ### xs.index(x) of texts -/
/-! ### two, three at once, one of them kept in a cell: by a tuple -/
section
variable {N Bk : List Sl → Prop} {R : Dt → Prop}
end
end Sb

set_option Elab.async false
set_option linter.all false
set_option maxRecDepth 100000
set_option autoImplicit false
namespace Sb
open PySem PySem.Spec PyProof.Rows L2 TL
variable {K : KX} {S : List Addr} {G : List Sl}
/-! ### sorted of ints -/
def srt (ns : List Int) : List Int := ns.mergeSort fun a b => decide (a ≤ b)
end Sb

set_option Elab.async false
set_option linter.all false
set_option maxRecDepth 100000
set_option autoImplicit false
namespace Sb
open PySem PySem.Spec PyProof.Rows L2 TL
variable {K : KX} {S : List Addr} {G : List Sl}
/-! ### own dicts -/
section
variable {B : Hp} {O : Ow} {H : Hp} {σ : L2.St}
end
section
variable {N Bk : List Sl → Prop} {R : Dt → Prop}
end
end Sb

set_option Elab.async false
set_option linter.all false
set_option maxRecDepth 100000
set_option autoImplicit false
namespace Sb
open PySem PySem.Spec PyProof.Rows L2 TL
/-! ### a, *b = xs, xs a list -/
def gStar (K : PySem.W.Frag) (i j : Nat) : TG := fun v σ H Q => ∃ (l : Addr) (x : V) (xs : List V), v = .ref l ∧ SqL K H l (x :: xs) ∧ xs.length ≤ 16000 ∧ ∀ p, H p = none → Q ((σ.set i (some x)).set j (some (.ref p))) (upd H p (.lst xs))
variable {K : KX} {S : List Addr} {G : List Sl} {N Bk : List Sl → Prop} {R : Dt → Prop}
end Sb

set_option Elab.async false
set_option linter.all false
set_option maxRecDepth 100000
set_option autoImplicit false
namespace Sb
open PySem PySem.Spec PyProof.Rows L2 TL
/-! ### cls(..), cls a local that holds the class -/
def tMakeV (i : Nat) (C : Addr) (sp : Sp) (t : TA) : TE := fun σ H Q => σ[i]? = some (some (.ref C)) ∧ tMake C sp [] E0 t σ H Q
variable {K : KX} {S : List Addr} {G : List Sl}
section
variable {al : Type} {rep : al → List Dt} {ok : al → Prop} {out : al → List (Str × Dt)} {post : al → Dt → Prop} {C : Addr}
/-! ### a def whose first parameter holds the class -/
def spC (K : KX) (C : Addr) (rep : al → List Dt) (ok : al → Prop) (post : al → Dt → Prop) : Sp := fun vs H Q E => ∃ ws, vs = .ref C :: ws ∧ spX K rep ok post ws H Q E
variable {P : Program} {w : World} {mg : Str → Option Value} {base : Heap}
end
end Sb

set_option Elab.async false
set_option linter.all false
set_option maxRecDepth 100000
set_option autoImplicit false
namespace Sb
open PySem PySem.Spec PyProof.Rows L2 TL
/-! ### C.m(..), m a classmethod -/
structure Cme (P : Program) (w : World) (K : PySem.W.Frag) (mg : Str → Option Value) (base : Heap) (k : Nat) (C : Addr) (m : Str) (sp : Sp) : Prop where
  ex : ∃ (mc : Value) (p g : Addr) (fd : FuncData) (ps : List Str), ClX.CRead K C mc ∧ ClX.CMet K C mc m p g ∧ FnOk P w K mg base CX0 k g fd ps sp ∧ Binds K fd ps []
variable {K : KX} {S : List Addr} {G : List Sl} {al : Type} {rep : al → List Dt} {ok : al → Prop} {post : al → Dt → Prop} {C : Addr}
end Sb

set_option Elab.async false
set_option linter.all false
set_option maxRecDepth 100000
set_option autoImplicit false
namespace Sb
open PySem PySem.Spec PyProof.Rows L2 TL
/-! ### o.m(k = v, ..) -/
structure MetK (P : Program) (w : World) (K : PySem.W.Frag) (mg : Str → Option Value) (base : Heap) (k : Nat) (C : Addr) (m : Str) (ks : List Str) (sp : Sp) (gV : List V → List V → List V) : Prop where
  ex : ∃ (f : Addr) (fd : FuncData) (ps : List Str) (g : List Value → List Value → List Value), Cls K C ∧ Meth K C m f ∧ FnOk P w K mg base CX0 k f fd ps sp ∧ KBn K fd ps 1 ks g gV
def tMethK (C : Addr) (m : Str) (n : Nat) (sp : Sp) (gV : List V → List V → List V) (ta : TE) (tk : TA) : TE := fun σ H Q => ta σ H fun x H1 => ∃ a dx fs, x = .ref a ∧ H1 a = some (.ins C dx fs) ∧ fs.lookup m = none ∧ tk σ H1 fun zs H2 => zs.length = n ∧ sp (gV [x] zs) H2 Q E0
/-- self, the second, the first -/
def swp {α : Type} : List α → List α → List α
  | [s], [b, n] => [s, n, b]
  | _, _ => []
/-- self, then the keywords in their order -/
def kap {α : Type} (us ws : List α) : List α := us ++ ws
variable {K : KX} {S : List Addr} {G : List Sl}
section
variable {al : Type} {rep : al → List Dt} {ok : al → Prop} {post : al → Dt → Prop}
end
/-! ### x or y -/
/-! ### xs[::-1] -/
/-! ### a, b, c, d -/
/-! ### {} -/
end Sb

set_option Elab.async false
set_option linter.all false
set_option maxRecDepth 100000
set_option autoImplicit false
namespace Sb
open PySem PySem.Spec PyProof.Rows L2 TL
variable {K : KX} {S : List Addr} {G : List Sl}
section
variable {B : Hp} {O : Ow} {H : Hp} {σ : L2.St}
end
section
variable {N Bk : List Sl → Prop} {R : Dt → Prop}
end
/-! ### lending -/
mutual
def Dt.nodic : Dt → Bool
  | .lst ds => nodicA ds
  | .tup ds => nodicA ds
  | .dic _ => false
  | .dii _ => false
  | .obj _ _ => false
  | _ => true
def nodicA : List Dt → Bool
  | [] => true
  | d :: ds => d.nodic && nodicA ds
end
theorem sqT_without {H : Hp} {P P' : List Addr} {q a : Addr} {kvs : List (Key × V)} {xs : List V} (hq : H q = some (.dK kvs)) (hP : ∀ a, a ∈ P' → a = q ∨ a ∈ P) (h : SqT K (hid H P) a xs) : SqT K (hid H P') a xs := by
  rcases h with (h | ⟨o, h⟩) | h
  · obtain ⟨n, e⟩ := hid_some h
    refine .inl (.inl ?_)
    rw [hid_out fun z => (hP a z).elim (fun y => by rw [y, hq] at e; cases e) n]
    exact e
  · obtain ⟨n, e⟩ := hid_some h
    refine .inl (.inr ⟨o, ?_⟩)
    rw [hid_out fun z => (hP a z).elim (fun y => by rw [y, hq] at e; cases e) n]
    exact e
  · exact .inr h
mutual
theorem Dn.without {H : Hp} {P P' : List Addr} {q : Addr} {kvs : List (Key × V)} (hq : H q = some (.dK kvs)) (hP : ∀ a, a ∈ P' → a = q ∨ a ∈ P) : ∀ (d : Dt) {v : V}, d.nodic = true → Dn K (hid H P) d v → Dn K (hid H P') d v
  | .non, _, _, h => h
  | .bl _, _, _, h => h
  | .int _, _, _, h => h
  | .str _, _, _, h => h
  | .lst ds, _, n, h => by
    obtain ⟨a, xs, rfl, h1, h2⟩ := h
    obtain ⟨na, e⟩ := hid_some h1
    refine ⟨a, xs, rfl, ?_, DnA.without hq hP ds n h2⟩
    rw [hid_out fun z => (hP a z).elim (fun y => by rw [y, hq] at e; cases e) na]
    exact e
  | .tup ds, _, n, h => by
    obtain ⟨a, xs, rfl, h1, h2⟩ := h
    exact ⟨a, xs, rfl, sqT_without hq hP h1, DnA.without hq hP ds n h2⟩
  | .dic _, _, n, _ => by cases n
  | .dii _, _, n, _ => by cases n
  | .obj _ _, _, n, _ => by cases n
theorem DnA.without {H : Hp} {P P' : List Addr} {q : Addr} {kvs : List (Key × V)} (hq : H q = some (.dK kvs)) (hP : ∀ a, a ∈ P' → a = q ∨ a ∈ P) : ∀ (d : List Dt) {v : List V}, nodicA d = true → DnA K (hid H P) d v → DnA K (hid H P') d v
  | [], _, _, h => h
  | d :: ds, _, n, h => by
    obtain ⟨v, r, rfl, h1, h2⟩ := h
    have n' : (d.nodic && nodicA ds) = true := n
    rw [Bool.and_eq_true] at n'
    exact ⟨v, r, rfl, Dn.without hq hP d n'.1 h1, DnA.without hq hP ds n'.2 h2⟩
end
/-! ### [e for x in ..] where the walk is drawn -/
end Sb

set_option Elab.async false
set_option linter.all false
set_option maxRecDepth 100000
set_option autoImplicit false
namespace Sb
open PySem PySem.Spec PyProof.Rows L2 TL
/-! ### an own def called from below a builtin -/
section
variable {X : Cx} {k j : Nat} {f C : Addr} {fd : FuncData} {ps : List Str} {sp : Sp}
/-- len(o) -/
def rLenO (C : Addr) (sp : Sp) : List V → Hp → VK → Prop := fun xs H Q => ∃ a dx fs, xs = [.ref a] ∧ H a = some (.ins C dx fs) ∧ sp [.ref a] H (fun v H2 => ∃ n : Int, v = .int n ∧ (0 ≤ n ∧ n < 2 ^ 63) ∧ Q (.int n) H2) E0
/-- str(o) -/
def rStrO (C : Addr) (sp : Sp) : List V → Hp → VK → Prop := fun xs H Q => ∃ a dx fs, xs = [.ref a] ∧ H a = some (.ins C dx fs) ∧ sp [.ref a] H (fun v H2 => ∃ x : Str, v = .str x ∧ Q (.str x) H2) E0
/-- o[i] -/
def rIxO (C : Addr) (sp : Sp) : R2 := fun x y H Q => ∃ a dx fs, x = .ref a ∧ H a = some (.ins C dx fs) ∧ sp [.ref a, y] H Q E0
structure MetI (P : Program) (w : World) (K : PySem.W.Frag) (mg : Str → Option Value) (base : Heap) (k : Nat) (C : Addr) (m : Str) (sp : Sp) : Prop where
  ex : ∃ (f : Addr) (fd : FuncData) (ps : List Str), Cls K C ∧ Meth K C m f ∧ PySem.W.fnIn K f = true ∧ FnOk P w K mg base CX0 k f fd ps sp ∧ Binds K fd ps []
def PlainO (b : Expr) : Prop := ∀ o i, subscripted b true o i = runValue (.builtin "lifetime.subscript" ⟨[o, i], []⟩)
/-! ### C(k = v, ..) -/
structure MakK (P : Program) (w : World) (K : PySem.W.Frag) (mg : Str → Option Value) (base : Heap) (k : Nat) (x : Str) (C : Addr) (ks : List Str) (sp : Sp) (gV : List V → List V → List V) : Prop where
  ex : ∃ (f : Addr) (fd : FuncData) (ps : List Str) (g : List Value → List Value → List Value), Mk K C f ∧ FnOk P w K mg base CX0 k f fd ps sp ∧ mg x = some (.ref C) ∧ KBn K fd ps 1 ks g gV
/-! ### C.m(k = v), m a classmethod, one keyword -/
def tCMethK (C : Addr) (sp : Sp) (ta : TE) (tk : TA) : TE := fun σ H Q => ta σ H fun x H1 => x = .ref C ∧ tk σ H1 fun zs H2 => zs.length = 1 ∧ sp (.ref C :: zs) H2 Q E0
structure CmeK (P : Program) (w : World) (K : PySem.W.Frag) (mg : Str → Option Value) (base : Heap) (k : Nat) (C : Addr) (m : Str) (kx : Str) (sp : Sp) : Prop where
  ex : ∃ (mc : Value) (p g : Addr) (fd : FuncData) (ps : List Str), ClX.CRead K C mc ∧ ClX.CMet K C mc m p g ∧ FnOk P w K mg base CX0 k g fd ps sp ∧ ∀ (s : Shared) (u v : Value), K.In s.heap → BindsTo s fd ⟨[u], [(kx, v)]⟩ (ps.zip [u, v])
end
/-! ### the same, told by data -/
variable {K : KX} {S : List Addr} {G : List Sl}
section
variable {al : Type} {rep : al → List Dt} {ok : al → Prop} {post : al → Dt → Prop} {C : Addr}
end
/-- C(k = v, ..): three keywords in any order -/
def rot3 {α : Type} : List α → List α → List α
  | [s], [r, a, l] => [s, a, l, r]
  | _, _ => []
section
variable {al : Type} {rep : al → List Dt} {ok : al → Prop} {out : al → List (Str × Dt)} {C : Addr}
end
end Sb

set_option Elab.async false
set_option linter.all false
set_option maxRecDepth 100000
set_option autoImplicit false
namespace Sb
open PySem PySem.Spec PyProof.Rows L2 TL
/-! ### bool(o), o with a __len__ -/
section
variable {prog : Program} {w : World} {A : Around} {E : Value → Shared → Prop} {s : Shared} {K : PySem.W.Frag} {x C L f : Addr} {h₀ : Heap} {m : Str → Option Value} {ox : Obj} {od : Option Obj}
def LenB (Q : Bool → Shared → Prop) (v : Value) (s' : Shared) : Prop := match v with
  | .int n _ => (0 ≤ n ∧ n < 2 ^ 63) ∧ Q (n != 0) { s' with toks := s'.toks + 1 }
  | _ => False
end
section
variable {X : Cx} {k j : Nat} {C : Addr} {sp : Sp}
def rBoolO (C : Addr) (sp : Sp) : List V → Hp → VK → Prop := fun xs H Q => ∃ a dx fs, xs = [.ref a] ∧ H a = some (.ins C dx fs) ∧ sp [.ref a] H (fun v H2 => ∃ n : Int, v = .int n ∧ (0 ≤ n ∧ n < 2 ^ 63) ∧ Q (.bl (n != 0)) H2) E0
end
section
variable {K : KX} {S : List Addr} {G : List Sl} {al : Type} {rep : al → List Dt} {ok : al → Prop} {post : al → Dt → Prop} {C : Addr}
end
end Sb

set_option Elab.async false
set_option linter.all false
set_option maxRecDepth 100000
set_option autoImplicit false
namespace Sb
open PySem PySem.Spec PyProof.Rows L2 TL
/-! ### how long what is shown may be -/
theorem piled_cons (t : Str) (r : List Str) : piled (t :: r) = t.length + 2 + piled r := by
  unfold piled
  rw [List.map_cons, List.sum_cons]
theorem textFrom_le : ∀ (ts : List Str) (k : Nat) (acc : Str), (textFrom k acc ts).length ≤ acc.length + piled ts
  | [], k, acc => by show acc.length ≤ _; omega
  | t :: r, k, acc => by
    have ih := textFrom_le r (k + 1) (acc ++ (if k > 0 then ", " else "" : String) ++ t)
    have e : (acc ++ (if k > 0 then ", " else "" : String) ++ t).length ≤ acc.length + 2 + t.length := by
      rw [Str.length_append, Str.length_append]
      have : (Str.ofString (if k > 0 then ", " else "" : String)).length ≤ 2 := by
        split <;> decide
      omega
    show (textFrom (k + 1) _ r).length ≤ acc.length + piled (t :: r)
    rw [piled_cons]
    omega
theorem listText_le (ts : List Str) : (listText ts).length ≤ piled ts + 2 := by
  unfold listText
  rw [Str.length_append]
  have h := textFrom_le ts 0 (Str.ofString "[")
  have e1 : (Str.ofString "[").length = 1 := by decide
  have e2 : (Str.ofString "]").length = 1 := by decide
  omega
theorem joinL_piled {s : List Nat} (hs : s.length ≤ 2) : ∀ (ts : List Str), (joinL s (ts.map tl)).length ≤ piled ts
  | [] => Nat.zero_le _
  | [t] => by
    rw [piled_cons]
    show (tl t).length ≤ _
    have : (tl t).length = t.length := (len_tl t)
    omega
  | t :: u :: ts => by
    have ih := joinL_piled hs (u :: ts)
    have e : (joinL s ((t :: u :: ts).map tl)).length = (tl t).length + (s.length + (joinL s ((u :: ts).map tl)).length) := by
      rw [List.map_cons, List.map_cons]
      first
        | (show (tl t ++ (s ++ joinL s (tl u :: ts.map tl))).length = _; rw [List.length_append, List.length_append])
        | (simp only [joinL, List.append_assoc, List.length_append])
    rw [e, piled_cons]
    have : (tl t).length = t.length := (len_tl t)
    omega
theorem tupleText_le (ts : List Str) : (tupleText ts).length ≤ piled ts + 3 := by
  unfold tupleText
  rw [Str.length_append, Str.length_append]
  have e1 : (Str.ofString "(").length = 1 := by decide
  have e2 : (Str.ofString (if (ts.length == 1) = true then ",)" else ")" : String)).length ≤ 2 := by split <;> decide
  have e3 : (Str.join (Str.ofString ", ") ts).length ≤ piled ts := by
    have e := tl_join (Str.ofString ", ") ts
    have hl : (tl (Str.ofString ", ")).length ≤ 2 := by decide +kernel
    rw [len_tl, e]
    exact joinL_piled hl ts
  omega
mutual
def Dt.wid : Dt → Nat
  | .str x => 10 * x.length + 2
  | .int i => (Str.ofString (toString i)).length
  | .lst ds => widA ds + 2
  | .tup ds => widA ds + 3
  | _ => 5
def widA : List Dt → Nat
  | [] => 0
  | d :: ds => d.wid + 2 + widA ds
end
mutual
def Dt.okS : Nat → Dt → Prop
  | _, .non => True
  | _, .bl _ => True
  | _, .int i => i.natAbs.log2 < 1920
  | _, .str x => ∀ c ∈ x.cps.toList, c < 16 ^ 8
  | n, .lst ds => 1 ≤ n ∧ okSA (n - 1) ds
  | n, .tup ds => 1 ≤ n ∧ okSA (n - 1) ds
  | _, .dic _ => False
  | _, .dii _ => False
  | _, .obj _ _ => False
def okSA : Nat → List Dt → Prop
  | _, [] => True
  | n, d :: ds => d.okS n ∧ okSA n ds
end
structure Shows (n : Nat) (d : Dt) : Prop where
  pl : d.plain = true
  sh : d.py.showable = true
  nd : d.py.hasDict = false
  dp : d.py.depth ≤ n
  ln : d.py.shown.length ≤ d.wid
mutual
theorem shows : ∀ (n : Nat) (d : Dt), d.okS n → Shows n d
  | n, .non, _ => ⟨rfl, rfl, rfl, Nat.zero_le _, by show (Str.ofString "None").length ≤ 5; decide⟩
  | n, .bl b, _ => ⟨rfl, rfl, rfl, Nat.zero_le _, by
      cases b
      · show (Str.ofString "False").length ≤ 5
        decide
      · show (Str.ofString "True").length ≤ 5
        decide⟩
  | n, .int i, h => ⟨rfl, decide_eq_true h, rfl, Nat.zero_le _, Nat.le_refl _⟩
  | n, .str x, h => ⟨rfl, rfl, rfl, Nat.zero_le _, PySem.StrLaws.reprText_len x h⟩
  | n, .lst ds, h => by
    obtain ⟨p1, p2, p3, p4, p5⟩ := showsA (n - 1) ds h.2
    have h1 := h.1
    refine ⟨p1, p2, p3, ?_, ?_⟩
    · show PyData.depthAll (pyA ds) + 1 ≤ n
      omega
    · show (listText (PyData.shownAll (pyA ds))).length ≤ widA ds + 2
      have := listText_le (PyData.shownAll (pyA ds))
      omega
  | n, .tup ds, h => by
    obtain ⟨p1, p2, p3, p4, p5⟩ := showsA (n - 1) ds h.2
    have h1 := h.1
    refine ⟨p1, p2, p3, ?_, ?_⟩
    · show PyData.depthAll (pyA ds) + 1 ≤ n
      omega
    · show (tupleText (PyData.shownAll (pyA ds))).length ≤ widA ds + 3
      have := tupleText_le (PyData.shownAll (pyA ds))
      omega
  | _, .dic _, h => h.elim
  | _, .dii _, h => h.elim
  | _, .obj _ _, h => h.elim
theorem showsA : ∀ (n : Nat) (ds : List Dt), okSA n ds → plainA ds = true ∧ PyData.showableAll (pyA ds) = true ∧ PyData.hasDictAll (pyA ds) = false ∧ PyData.depthAll (pyA ds) ≤ n ∧ piled (PyData.shownAll (pyA ds)) ≤ widA ds
  | n, [], _ => ⟨rfl, rfl, rfl, Nat.zero_le _, Nat.zero_le _⟩
  | n, d :: ds, h => by
    obtain ⟨q1, q2, q3, q4, q5⟩ := shows n d h.1
    obtain ⟨p1, p2, p3, p4, p5⟩ := showsA n ds h.2
    refine ⟨?_, ?_, ?_, ?_, ?_⟩
    · show (d.plain && plainA ds) = true
      rw [q1, p1]; rfl
    · show (d.py.showable && PyData.showableAll (pyA ds)) = true
      rw [q2, p2]; rfl
    · show (d.py.hasDict || PyData.hasDictAll (pyA ds)) = false
      rw [q3, p3]; rfl
    · show max d.py.depth (PyData.depthAll (pyA ds)) ≤ n
      omega
    · show piled (d.py.shown :: PyData.shownAll (pyA ds)) ≤ d.wid + 2 + widA ds
      rw [piled_cons]
      omega
end
theorem rc_reprS {K : KX} {d : Dt} (h : d.okS 50) (hw : d.wid ≤ 100000) : Rcv K (rRepr K) [d] (· = .str d.py.shown) := by
  obtain ⟨p1, p2, p3, p4, p5⟩ := shows 50 d h
  exact rc_repr p1 p2 p3 p4 (Nat.le_trans p5 hw) rfl
theorem ed_reprS {K : KX} {S : List Addr} {G : List Sl} {te : TE} {d : Dt} (h : Eg K S G te (· = d)) (hs : d.okS 50) (hw : d.wid ≤ 100000) : Eg K S G (tCB (rRepr K) (tCons te tNil)) (· = .str d.py.shown) := ed_cb (ea_1 h) (rc_reprS hs hw)
end Sb

set_option Elab.async false
set_option linter.all false
set_option maxRecDepth 100000
set_option autoImplicit false
namespace Sb
open PySem PySem.Spec PyProof.Rows L2 TL
variable {K : KX} {S : List Addr} {G : List Sl}
/-! ### t + u, either may be empty -/
def rAddB (K : PySem.W.Frag) : R2 := fun x y H Q => rAddA K x y H Q ∨ rCatA K x y H Q
/-! ### != of data -/
theorem ed_neD {ta tb : TE} {x y : Dt} (ha : Eg K S G ta (· = x)) (hb : Eg K S G tb (· = y)) (px : x.plain = true) (py : y.plain = true) (sx : SeqAt.shaped x.py = true) (sy : SeqAt.shaped y.py = true) : Eg K S G (tOp (rNeA K) ta tb) (· = .bl (!PyData.eqv x.py y.py)) :=
  ed_op ha hb fun P H v w Q t d1 d2 k => .inr ⟨x.py, y.py, dp_of x px (Dn.mono (hid_ex P).n x d1), dp_of y py (Dn.mono (hid_ex P).n y d2), sx, sy, rv_out k rfl rfl⟩
/-! ### o == u, both of the class -/
section
variable {X : Cx} {k j : Nat} {C : Addr} {sp : Sp}
def rEqO (C : Addr) (sp : Sp) : R2 := fun x y H Q => ∃ a b dx fs dy gs, x = .ref a ∧ y = .ref b ∧ H a = some (.ins C dx fs) ∧ H b = some (.ins C dy gs) ∧ sp [.ref a, .ref b] H (fun v H2 => ∃ r : Bool, v = .bl r ∧ Q (.bl r) H2) E0
end
section
variable {al : Type} {rep : al → List Dt} {ok : al → Prop} {post : al → Dt → Prop} {C : Addr}
end
/-! ### isinstance(o, C) -/
structure IsiC (K : PySem.W.Frag) (C : Addr) : Prop where
  cl : Cls K C
  ha : PySem.W.findIn K (.ref C) "__class__" = some (some (.builtin "object.__class__"))
  hn : PySem.W.specialIn K (.builtin "object.__class__") "__get__" = some (some (.builtin "getset_descriptor.__get__"))
  htk : PySem.W.takesIn K (.builtin "object.__class__") = some true
  hm : PySem.W.mroIn K C (.type "object") = some true
  hk : PySem.W.kitOne K (.ref C) (.ref C) = some true
end Sb

set_option Elab.async false
set_option linter.all false
set_option maxRecDepth 100000
set_option autoImplicit false
namespace Sb
open PySem PySem.Spec PyProof.Rows L2 TL
variable {K : KX} {S : List Addr} {G : List Sl}
/-! ### a, b, c = a list -/
/-! ### a <= b < c -/
end Sb

set_option Elab.async false
set_option linter.all false
set_option maxRecDepth 100000
set_option autoImplicit false
namespace PySem.W
open PySem PySem.Calls PyProof.Rows
/-! ### sorted(range, key=f), over the heap -/
section
variable {prog : Program} {w : World} {A : Around} {E : Value → Shared → Prop} {s : Shared}
end
end PySem.W

set_option Elab.async false
set_option linter.all false
set_option maxRecDepth 100000
set_option autoImplicit false
namespace PySem.W
open PySem PySem.Calls PyProof.Rows
/-! ### the call of lambda x: (-y[x], x), over the heap -/
section
variable {prog : Program} {w : World} {A : Around} {s : Shared}
end
end PySem.W

set_option Elab.async false
set_option linter.all false
set_option maxRecDepth 100000
set_option autoImplicit false
namespace Sb
open PySem PySem.Spec PyProof.Rows L2
/-! ### sorted(range(e), key=lambda x: (-y[x], x)) -/
def kNeg (xs : List Int) : Int → PyData := fun x => .tuple [.int (-(xs.getD x.toNat 0)), .int x]
def placesOf (xs : List Int) (n : Nat) : List Int := ((List.range n).map fun i : Nat => (i : Int)).mergeSort (PySem.W.dataLe false (kNeg xs))
def rRng1 : List V → Hp → VK → Prop := fun vs H Q => ∃ j, vs = [V.int j] ∧ ∀ p, H p = none → Q (.ref p) (upd H p (.rng 0 j))
def tSortLam (T : List (Addr × Str)) (K : PySem.W.Frag) (j : Nat) (te : TE) : TE := fun σ H Q => tCB rRng1 (tCons te tNil) σ H fun v H2 => ∃ (n : Nat) (r ta : Addr) (xs : List Int), v = .ref r ∧ H2 r = some (.rng 0 (n : Int)) ∧ n ≤ xs.length ∧ xs.length ≤ 100 ∧ LamX.Tabs T H2 ∧ σ[j]? = some (some (.ref ta)) ∧ SqT K H2 ta (xs.map V.int) ∧
  ∀ H3 l, ExN H2 H3 → LamX.Tabs T H3 → H3 l = none → Q (.ref l) (upd H3 l (.lst ((placesOf xs n).map V.int)))
section
variable {X : Cx}
end
end Sb

set_option Elab.async false
set_option linter.all false
set_option maxRecDepth 100000
set_option autoImplicit false
namespace Sb
open PySem PySem.Spec PyProof.Rows L2 TL
variable {K : KX} {S : List Addr} {G : List Sl}
end Sb

set_option Elab.async false
set_option linter.all false
set_option maxRecDepth 100000
set_option autoImplicit false
namespace Sb
open PySem PySem.Spec PyProof.Rows L2 TL
variable {K : KX}
/-! ### a def that makes a lambda: its code object and its table are known -/
structure TabF (K : KX) (mg : Str → Option Value) (base : Heap) (fd : FuncData) (q : Str) : Prop where
  ex : ∃ c Pt, fd.code = .ref c ∧ LamX.TabB base mg c Pt ∧ (Pt, q) ∈ K.tb ∧ ∀ p ∈ K.tb, p.1 = Pt → p.2 = q
section
variable {P : Program} {w : World} {mg : Str → Option Value} {base : Heap}
variable {al : Type} {rep : al → List Dt} {ok : al → Prop} {post : al → Dt → Prop}
end
/-! ### what the places are -/
end Sb

set_option Elab.async false
set_option linter.all false
set_option maxRecDepth 100000
set_option maxHeartbeats 4000000
set_option autoImplicit false
/-! own exception classes over ValueError, LookupError, ArithmeticError -/
namespace SbX
open PySem PySem.W PySem.Calls PyProof.Rows PySem.HandSPX
open Builtin Builtin.ObjectAttr
/-- own classes, then this tail -/
def refsT (tl : List Value) : List Value → Bool
  | .ref _ :: r => refsT tl r
  | l => l == tl
theorem refsT_cases (tl : List Value) : ∀ l : List Value, refsT tl l = true → (∃ c r, l = .ref c :: r ∧ refsT tl r = true) ∨ l = tl
  | [], e => .inr (beq_iff_eq.mp e)
  | .ref c :: r, e => .inl ⟨c, r, rfl, e⟩
  | .none :: _, e => .inr (beq_iff_eq.mp e)
  | .ellipsis :: _, e => .inr (beq_iff_eq.mp e)
  | .notImplemented :: _, e => .inr (beq_iff_eq.mp e)
  | .bool _ :: _, e => .inr (beq_iff_eq.mp e)
  | .int _ _ :: _, e => .inr (beq_iff_eq.mp e)
  | .float _ _ :: _, e => .inr (beq_iff_eq.mp e)
  | .str _ _ :: _, e => .inr (beq_iff_eq.mp e)
  | .bytes _ _ :: _, e => .inr (beq_iff_eq.mp e)
  | .type _ :: _, e => .inr (beq_iff_eq.mp e)
  | .builtin _ :: _, e => .inr (beq_iff_eq.mp e)
theorem refsT_pass {tl : List Value} (hp : ∀ self : Value, refuseLoop self "__setattr__" tl = pure ()) (self : Value) : ∀ l : List Value, refsT tl l = true → refuseLoop self "__setattr__" l = pure () := by
  intro l
  induction l with
  | nil =>
    intro e
    rcases refsT_cases tl [] e with ⟨c, r', q, h⟩ | q
    · cases q
    · rw [q]; exact hp self
  | cons a r ih =>
    intro e
    rcases refsT_cases tl (a :: r) e with ⟨c, r', q, h⟩ | q
    · obtain ⟨rfl, rfl⟩ := List.cons.inj q
      exact (refuseLoop_ref ..).trans (ih h)
    · rw [q]; exact hp self
theorem refsT_contains (tl : List Value) (X : String) : ∀ l : List Value, refsT tl l = true → l.contains (.type X) = tl.contains (.type X) := by
  intro l
  induction l with
  | nil =>
    intro e
    rcases refsT_cases tl [] e with ⟨c, r', q, h⟩ | q
    · cases q
    · rw [q]
  | cons a r ih =>
    intro e
    rcases refsT_cases tl (a :: r) e with ⟨c, r', q, h⟩ | q
    · obtain ⟨rfl, rfl⟩ := List.cons.inj q
      rw [List.contains_cons, ih h]; rfl
    · rw [q]
abbrev leTail : List Value := [.type "LookupError", .type "Exception", .type "BaseException", .type "object"]
abbrev aeTail : List Value := [.type "ArithmeticError", .type "Exception", .type "BaseException", .type "object"]
section
variable {prog : Program} {w : World} {A : Around} {R : Result → Shared → Prop} {hp : Heap} {g : Array GenState} {d : Drawn} {t : Nat} {os : OsState}
/-- o.f = v on an exception without a dict, of a class whose mro refuses nothing -/
theorem osaE {K : W.Frag} {f : Str} {tk : Tok} {v : Value} {a C : Addr} {fv : Array Value} {cd : ClassData} (kin : K.In hp) (ha : hp.get? a = some { cls := .ref C, data := .fields fv }) (hcd : W.clsIn K C = some cd)
    (mro : cd.mro.isEmpty = false ∧ cd.mro.contains (.type "object") = true ∧ ∀ self : Value, refuseLoop self "__setattr__" cd.mro = pure ()) (hh : cd.hasDict = true) (no : W.findIn K (.ref C) f = some none)
    (fin : ∀ h' tk' n, (∀ b o, b ≠ a → hp.get? b = some o → h'.get? b = some o) ∧ hp.objs.size ≤ n ∧ n ≠ a ∧ h'.get? a = some { cls := .ref C, dict := some n, data := .fields fv } ∧ h'.Ns1 n (fun y => if y = f then some v else none) → R (.ok (.ret .none)) ⟨h', g, d, tk', os⟩) :
    codeAny (model prog w) A (.call (.builtin "object.__setattr__") ⟨[.ref a, .str f tk, v], []⟩) R ⟨hp, g, d, t, os⟩ := by
  obtain ⟨m1, m2, m3⟩ := mro
  have far : a ≠ hp.objs.size := Nat.ne_of_lt (Heap.lt_size ha)
  have inst : W.InstAt hp a { cls := .ref C, data := .fields fv } C none := ⟨ha, rfl, rfl, trivial⟩
  have lookC : W.Looks (model prog w) hp (classData C) cd := W.looks_clsIn kin hcd
  have isObj : W.Looks (model prog w) hp (isInstance (.ref a) (.type "object")) true := inst.type.andThen (W.looks_mroIn kin (by unfold W.mroIn; rw [hcd, Option.bind_some, if_neg (by rw [m1]; decide), m2]))
  refine codeAny_call_builtin F.store_object.slot.plain F.store_object.entry (@W.check_slot (model prog w) _ _ ⟨hp, g, d, t, os⟩ "object.__setattr__" "object" "__setattr__" (.ref a) [.str f tk, v] [] _ F.store_object.kind F.store_object.split isObj (F.store_object.args (.ref a) (.str f tk) v) ?_)
  have lookM : W.Looks (model prog w) hp (mroOf (.ref C)) cd.mro := lookC.andThen .now
  rw [W.osa_eq, refuse_eq]
  refine wpAny_bind (wpAny_bind (inst.type.at (wpAny_bind (lookM.at ?_))))
  rw [m3]
  have noTaker : W.Looks (model prog w) hp (storeTaker? none) none := .now
  refine wpAny_pure (wpAny_bind (inst.type.at (wpAny_bind ((W.looks_findIn kin no).at (wpAny_bind (noTaker.at ?_))))))
  show wpAny _ _ (storeInOwnDict (.ref a) (.ref C) (.str f tk) f v false) _ _ _
  cases cd with
  | mk nm bs mro ns qn hd sn sb ab col del =>
    cases (show hd = true from hh)
    unfold storeInOwnDict ownDictForStores
    repeat (first | with_reducible refine store_in_new ?_ ?_ | with_reducible refine wpAny_loadPart_at ha ?_ | with_reducible refine lookC.at ?_ | wp_step)
    · exact ⟨_, #[], _, (Heap.get?_update_ne _ _ _ _ far.symm).trans (Heap.get?_push_at rfl rfl), rfl, fun e he => absurd he (by simp), fun _ => rfl⟩
    · intro h' tk' hn' hs
      have a1 := Heap.get?_push_of_some ({ cls := .type "dict", data := .dict #[] } : Obj) ha
      refine fin h' tk' hp.objs.size ⟨fun b o hb ho => ?_, Nat.le_refl _, far.symm, (hs.2 a far).trans (Heap.get?_update_self _ a1 rfl), hn'⟩
      rw [hs.2 b (Nat.ne_of_lt (Heap.lt_size ho)), Heap.get?_update_ne _ _ _ _ hb]
      exact Heap.get?_push_of_some _ ho
end
end SbX
namespace Sb
open PySem PySem.Spec PyProof.Rows L2 TL
open Builtin Builtin.ObjectAttr
/-- what the written part says of the class -/
structure OexE (K : PySem.W.Frag) (C : Addr) : Prop where
  cls : ∃ nm q N bs bm sn sub ab col dd k0 k1 k2 k3 k5 B newId initId bmB, K.lookup C = some (excClassObj nm q C N bs bm true sn sub ab col dd k0 k1 k2 k3 k5 newId) ∧ ExcBaseFacts B newId initId bmB ∧ (∀ Y : String, bm.contains (.type Y) = bmB.contains (.type Y)) ∧ bm.contains (.type "object") = true ∧ ∀ self : Value, refuseLoop self "__setattr__" bm = pure ()
  sa : PySem.W.findIn K (.ref C) "__setattr__" = some (some (.builtin "object.__setattr__"))
  exC : PySem.W.subIn K (.ref C) (.type "BaseException") = some true
  tyC : PySem.W.typeIn K (.ref C) = some (.type "type")
  kC : PySem.W.keepIn K (.ref C) = true
theorem _root_.L2.OexC.e {K : PySem.W.Frag} {C : Addr} (T : OexC K C) : OexE K C := by
  obtain ⟨nm, q, N, bs, bm, sn, sub, ab, col, dd, k0, k1, k2, k3, k5, hC, hbm⟩ := T.cls
  exact ⟨⟨nm, q, N, bs, bm, sn, sub, ab, col, dd, k0, k1, k2, k3, k5, _, _, _, _, hC, F.excBase_ValueError, fun Y => PySem.HandSPX.refsVE_contains Y bm hbm, (PySem.HandSPX.refsVE_contains "object" bm hbm).trans (by decide +kernel), fun self => PySem.HandSPX.refsVE_pass self bm hbm⟩, T.sa, T.exC, T.tyC, T.kC⟩
/-- over LookupError -/
theorem oexL {K : PySem.W.Frag} {C N : Addr} {nm q : Str} {bs bm : List Value} {sn : List Str} {sub : List Value} {ab : Bool} {col : Option Bool} {dd : Option Addr} {k0 k1 k2 k3 k5 : Option Value} (hC : K.lookup C = some (excClassObj nm q C N bs bm true sn sub ab col dd k0 k1 k2 k3 k5 "LookupError.__new__")) (hbm : SbX.refsT SbX.leTail bm = true)
    (sa : PySem.W.findIn K (.ref C) "__setattr__" = some (some (.builtin "object.__setattr__"))) (exC : PySem.W.subIn K (.ref C) (.type "BaseException") = some true) (tyC : PySem.W.typeIn K (.ref C) = some (.type "type")) (kC : PySem.W.keepIn K (.ref C) = true) : OexE K C :=
  ⟨⟨nm, q, N, bs, bm, sn, sub, ab, col, dd, k0, k1, k2, k3, k5, _, _, _, _, hC, F.excBase_LookupError, fun Y => SbX.refsT_contains _ Y bm hbm, (SbX.refsT_contains _ "object" bm hbm).trans (by decide +kernel), fun self => SbX.refsT_pass (fun self => F.store_LookupError.passes self) self bm hbm⟩, sa, exC, tyC, kC⟩
/-- over ArithmeticError -/
theorem oexA {K : PySem.W.Frag} {C N : Addr} {nm q : Str} {bs bm : List Value} {sn : List Str} {sub : List Value} {ab : Bool} {col : Option Bool} {dd : Option Addr} {k0 k1 k2 k3 k5 : Option Value} (hC : K.lookup C = some (excClassObj nm q C N bs bm true sn sub ab col dd k0 k1 k2 k3 k5 "ArithmeticError.__new__")) (hbm : SbX.refsT SbX.aeTail bm = true)
    (sa : PySem.W.findIn K (.ref C) "__setattr__" = some (some (.builtin "object.__setattr__"))) (exC : PySem.W.subIn K (.ref C) (.type "BaseException") = some true) (tyC : PySem.W.typeIn K (.ref C) = some (.type "type")) (kC : PySem.W.keepIn K (.ref C) = true) : OexE K C :=
  ⟨⟨nm, q, N, bs, bm, sn, sub, ab, col, dd, k0, k1, k2, k3, k5, _, _, _, _, hC, F.excBase_ArithmeticError, fun Y => SbX.refsT_contains _ Y bm hbm, (SbX.refsT_contains _ "object" bm hbm).trans (by decide +kernel), fun self => SbX.refsT_pass (fun self => F.store_ArithmeticError.passes self) self bm hbm⟩, sa, exC, tyC, kC⟩
section
/-- an object that stands is another one now, a new one stands beside it -/
theorem un_two {fs : List Addr} {H : Hp} {hp h' : Heap} {a n : Addr} {oa ua un : HO} (ea : H a = some oa) (hn : H n = none) (k : ∀ b o, b ≠ a → hp.get? b = some o → h'.get? b = some o) (fresh : hp.objs.size ≤ n) (stands : ∃ o, h'.get? a = some o) (n1 : ∀ xs, oa ≠ .tup xs) (n2 : ∀ o u, oa ≠ .frz o u) (n3 : ∀ ps, oa ≠ .tbl ps) :
    Un fs [] H (upd (upd H n un) a ua) hp h' := by
  have out : ∀ {b : Addr}, H b = none → b ≠ a := fun {b} z e => by rw [e, ea] at z; cases z
  have old : ∀ {b : Addr} {o : Obj}, hp.get? b = some o → b ≠ n := fun {b o} q e => absurd (Heap.lt_size q) (by rw [e]; exact Nat.not_lt.mpr fresh)
  have same : ∀ {b : Addr} {u : HO}, H b = some u → u ≠ oa → upd (upd H n un) a ua b = some u := fun {b u} q d => by
    rw [upd_ne (fun e => d (by rw [e, ea] at q; exact (Option.some.inj q).symm)), upd_ne (ne_of_none q hn)]
    exact q
  exact { keep := fun b o q z _ _ => k b o (out z) q
          slot := fun b o q z _ _ => ⟨o.slots, k b o (out z) q⟩
          free := fun b o q z _ => by rw [upd_ne (out z), upd_ne (old q)]; exact z
          there := fun b o q _ => if e : b = a then by rw [e]; exact stands else ⟨o, k b o e q⟩
          tups := fun b xs q => same q (Ne.symm (n1 xs))
          frzs := fun b o v q => same q (Ne.symm (n2 o v))
          tbls := fun b ps q => ⟨#[], by rw [same q (Ne.symm (n3 ps))]; simp⟩ }
variable {X : Cx} {pins : List (Addr × Obj)} {σ : L2.St} {H : Hp} {s : Shared} {a C : Addr} {f : Str} {y : V} {u : Value} {Q : Unit → Shared → Prop} {E : Value → Shared → Prop} {A : Around}
/-- a.f = y, the first field -/
theorem put_first (T : OexE X.K C) (I : Inv X pins σ H s) (e : H a = some (exo a C none)) (no : PySem.W.findIn X.K (.ref C) f = some none) (ry : RelV y u)
    (fin : ∀ n s', H n = none → n ≠ a → Inv X pins σ (upd (upd H n (exd n [(f, y)])) a (exo a C (some n))) s' → Q () s') : wpAny (model X.prog X.w) A (setAttr (.ref a) f u) Q E s := by
  obtain ⟨nm, q, N, bs, bm, sn, sub, ab, col, dd, k0, k1, k2, k3, k5, Bn, newId, initId, bmB, hC, F1, hT, hob, hps⟩ := T.cls
  obtain ⟨t1, ho⟩ := exo_at I.hok e
  cases s with
  | mk hp g d t os =>
    refine PySem.W.set_plain I.kIn (od := none) ⟨ho, rfl, rfl, trivial⟩ T.sa ?_
    refine SbX.osaE (cd := { name := nm, bases := bs, mro := .ref C :: bm, ns := N, qualname := q, hasDict := true, slotNames := sn, subclasses := sub, abstract := ab, collection := col, hasDel := false }) I.kIn ho (by unfold PySem.W.clsIn; rw [hC] <;> rfl) ⟨rfl, by rw [List.contains_cons, hob, Bool.or_true], fun self => (refuseLoop_ref ..).trans (hps self)⟩ rfl no fun h' tk' n ⟨k, fr, na, hx, hns⟩ => ?_
    have hn : H n = none := I.hok.fresh fr
    refine fin n _ hn na (I.un (t' := tk') (un_two e hn k fr ⟨_, hx⟩ (fun _ => exo_tup) (fun _ _ => exo_frz) (fun _ => exo_tbl)) fun b o q => ?_)
    by_cases hb : b = a
    · rw [hb, upd_same] at q
      cases q
      rw [hb]
      exact exo_ok hx
    rw [upd_ne hb] at q
    by_cases hd : b = n
    · rw [hd, upd_same] at q
      cases q
      rw [hd]
      exact exd_ok hns (relO_put (fs := []) ry fun _ => True.intro)
    rw [upd_ne hd] at q
    have ne : ∀ {c : Addr} {v : Addr}, H c = some (.own v) → c ≠ a := fun hc => at_ne e hc exo_own
    refine (I.hok b o q).stay (fun c v hc z => k c v (hc.elim (fun z => by rw [z]; exact hb) ne) z) (fun c hc => ?_) fun c xs hc => ?_
    · rw [upd_ne (ne hc), upd_ne (ne_of_none hc hn)]
      exact hc
    · rw [upd_ne (at_ne e hc exo_tup), upd_ne (ne_of_none hc hn)]
      exact hc
end
/-- self.f = e, the first one -/
def tOstE (K : PySem.W.Frag) (f : Str) (to te : TE) : TS := fun D σ H => te σ H fun y H1 => to σ H1 fun x H2 => ∃ a C : Addr, x = .ref a ∧ OexE K C ∧ PySem.W.findIn K (.ref C) f = some none ∧
  H2 a = some (exo a C none) ∧ ∀ dx, H2 dx = none → dx ≠ a → D.nx σ (upd (upd H2 dx (exd dx [(f, y)])) a (exo a C (some dx)))
theorem ps_ostE {X : Cx} {o e : Expr} {to te : TE} {f : Str} {p' pos : Pos} (ho : PE X o to) (he : PE X e te) (hs : swapsWith e (some (.Attribute o f p')) pos.line X.env = pure false := by rfl) : PS X (.Assign [.Attribute o f p'] e pos) (tOstE X.K f to te) := by
  refine ⟨fun pins s σ H D I h => ?_⟩
  refine plainObj_wpAny_Assign_Attribute (thn (he.run pins s σ H _ I h) fun v s1 ⟨y, H1, I1, r1, q1⟩ => thn (ho.run pins s1 σ H1 _ I1 q1) fun u s2 ⟨x, H2, I2, r2, a, C, ex, T, hno, ea, q⟩ => ?_) hs
  subst ex
  obtain rfl : u = Value.ref a := r2
  exact put_first T I2 ea hno r1 fun dx s' n ne J => ⟨σ, _, J, q dx n ne⟩
end Sb

set_option Elab.async false
set_option linter.all false
set_option maxRecDepth 100000
set_option autoImplicit false
namespace Sb
open PySem PySem.Spec PyProof.Rows L2 TL
variable {K : KX} {S : List Addr} {G : List Sl}
/-! ### statements that may raise: an exception tells its class, its one field and the data there -/
abbrev XP := Addr → Str → Dt → Prop
/-- what is wished of an exception (W) holds for all that X allows -/
def XWish (K : KX) (B : Hp) (S : List Addr) (O : Ow) (W : WX) (X : XP) : Prop := ∀ C f dt v d σ H', X C f dt → Fin K B S O H' → Dn K (hid H' (d :: (op O ++ S))) dt v → d ∉ op O ++ S → H' d = some (.xd [(f, v)]) → W (.ref C) (some d) σ H'
def RunX (K : KX) (S : List Addr) (W : WX) (ts : TS) (G : List Sl) (N : List Sl → Prop) (R : Dt → Prop) (Bk : List Sl → Prop) (X : XP) : Prop := ∀ B O (D : Ends) σ H, Hold K B S O G H σ →
  (∀ G' σ' H', N G' → Hold K B S O G' H' σ' → D.nx σ' H') → (∀ v d H', R d → Fin K B S O H' → Dn K (hid H' (op O ++ S)) d v → D.rt v H') → (∀ G' σ' H', Bk G' → Hold K B S O G' H' σ' → D.bk σ' H') → XWish K B S O W X → ts D σ H
def EgX (K : KX) (S : List Addr) (W : WX) (G : List Sl) (te : TE) (post : Dt → Prop) (X : XP) : Prop := ∀ B O σ H, Hold K B S O G H σ → ∀ Q : VK,
  (∀ v H' d, post d → Hold K B S O G H' σ → Gr (pof O G) H H' → Dn K (hid H' (pof O G)) d v → Q v H') → XWish K B S O W X → te σ H Q
section
variable {W : WX} {X : XP} {te : TE} {tt : TT} {t1 t2 ts : TS} {N N1 Bk : List Sl → Prop} {R : Dt → Prop} {p : Dt → Prop}
end
/-! ### promises of defs that may raise -/
section
variable {al : Type} {rep : al → List Dt} {ok : al → Prop} {post : al → Dt → Prop} {xpost : al → XP}
def spE (K : KX) (rep : al → List Dt) (ok : al → Prop) (post : al → Dt → Prop) (xpost : al → XP) : Sp := fun vs H Q E => ∃ a, ok a ∧ ∃ P ds, Trk P H ∧ P.Nodup ∧ Tb K H ∧ DnA K (hid H P) ds vs ∧ ds = rep a ∧ (∀ v d H', post a d → ExN H H' → Tb K H' → Dn K (hid H' P) d v → Q v H') ∧
  ∀ C f dt v d H', xpost a C f dt → ExN H H' → Tb K H' → Dn K (hid H' (d :: P)) dt v → d ∉ P → H' d = some (.xd [(f, v)]) → E (.ref C) (some d) H'
variable {P : Program} {w : World} {mg : Str → Option Value} {base : Heap}
end
/-! ### raise C(e), where C.__init__(self, x) says self.f = x -/
section
variable {P : Program} {w : World} {mg : Str → Option Value} {base : Heap}
/-- what such an __init__ promises -/
def spO (K : PySem.W.Frag) (f : Str) : Sp := fun vs H Q _ => ∃ (a C : Addr) (v : V), vs = [.ref a, v] ∧ OexE K C ∧ PySem.W.findIn K (.ref C) f = some none ∧ H a = some (exo a C none) ∧ ∀ dx, H dx = none → dx ≠ a → Q .non (upd (upd H dx (exd dx [(f, v)])) a (exo a C (some dx)))
theorem fn_O {x qual : Str} {st : Stmt} {g : Addr} {fd : FuncData} {n1 n2 f : Str} (F : Fun K x qual st g fd) (Sc : FnScope [n1, n2] [n1, n2] (defScope st))
    (hb : ∀ (cdv : Value) (A : Around) (outer : List Env) (s : Shared) (H : Hp) (E : XK), PSs (cxOf CX0 P w K mg base [n1, n2] qual (defScope st) g cdv A outer s H E).nox (defBody st) (tOstE K f (tVar 0) (tVar 1))) :
    FnOk P w K mg base CX0 1 g fd [n1, n2] (spO K f) := by
  obtain ⟨oc, od, kV, doc, pm, an, cdv, ct, osl, rfl, lk, hcd⟩ := F.ex
  refine fn_of lk hcd Sc (fun vs H Q E h => ?_) fun A outer s H vs Q E hr h => ?_
  · obtain ⟨a, C, v, rfl, _⟩ := h
    rfl
  · refine ⟨_, (hb cdv A outer s H E).nox, ?_⟩
    obtain ⟨a, C, v, rfl, T, no, ha, k⟩ := h
    exact ⟨v, rfl, .ref a, rfl, a, C, rfl, T, no, ha, fun dx h1 h2 => k dx h1 h2⟩
/-- the exception class x at C, its field f -/
structure Xc (P : Program) (w : World) (K : KX) (mg : Str → Option Value) (base : Heap) (x : Str) (C : Addr) (f : Str) : Prop where
  T : OexE K C
  no : PySem.W.findIn K (.ref C) f = some none
  ex : ∃ (g : Addr) (fd : FuncData) (ps : List Str), PySem.W.findIn K (.ref C) "__init__" = some (some (.ref g)) ∧ PySem.W.typeIn K (.ref g) = some (.type "function") ∧ FnOk P w K mg base CX0 1 g fd ps (spO K f) ∧ Binds K fd ps []
  gl : mg x = some (.ref C)
def tRs (K : PySem.W.Frag) (C : Addr) (f : Str) (W : WX) (te : TE) : TS := fun _ σ H => tMkO C (spO K f) [] (tCons te tNil) σ H fun cls d H' => W cls d σ H'
end
end Sb

set_option Elab.async false
set_option linter.all false
set_option maxRecDepth 100000
set_option autoImplicit false
namespace Sb
open PySem PySem.Spec PyProof.Rows L2 TL
/-! ### an exception that is held while a suite runs, with its dict -/
/-- X holds the exception at a: its class, its dict at d -/
def PinX (X : Cx) (a C d : Addr) : Prop := ∃ oe, (a, oe) ∈ X.pn ∧ Zc (.ref C) (some d) oe ∧ ∃ vs, oe.data = .fields vs
def rIsX (K : PySem.W.Frag) (C d a : Addr) : List V → Hp → VK → Prop := fun xs H Q => ∃ (c : V) (cv : Value) (b : Bool) (fs : List (Str × V)), xs = [.ref a, c] ∧ (∀ u, RelV c u → u = cv) ∧ PySem.W.kitOne K (.ref C) cv = some b ∧ H d = some (.xd fs) ∧ Q (.bl b) H
end Sb

set_option Elab.async false
set_option linter.all false
set_option maxRecDepth 100000
set_option maxHeartbeats 4000000
set_option autoImplicit false
namespace Sb
open PySem PySem.Spec PyProof.Rows L2 TL
/-! ### exceptions as values: C(e) -/
def tExV (C : Addr) (sp : Sp) (ta : TA) : TE := fun σ H Q => ta σ H fun vs H1 => vs.length ≤ 1000 ∧ ∀ a, H1 a = none → sp (.ref a :: vs) (upd H1 a (exo a C none)) (fun v H2 => v = .non ∧ Q (.ref a) H2) (fun _ _ _ => False)
theorem pe_oexV {X : Cx} {CX : CXT} {x : Str} {C fI : Addr} {k : Nat} {fd : FuncData} {ps : List Str} {sp : Sp} {e : Expr} {es : List Expr} {ta : TA} {p pos : Pos} (T : OexE X.K C) (iC : PySem.W.findIn X.K (.ref C) "__init__" = some (some (.ref fI))) (tI : PySem.W.typeIn X.K (.ref fI) = some (.type "function"))
    (F1 : FnOk X.prog X.w X.K X.mg X.base CX k fI fd ps sp) (hr : Room (k + 1) X.A) (hb : Binds X.K fd ps []) (hx : Passes CX X (fun _ _ _ => False)) (hg : Gl X x) (hm : X.mg x = some (.ref C)) (ha : PA X (e :: es) ta)
    (hdb : (x == ("__debug__" : Str)) = false := by decide) (he : starEach (e :: es) X.env = (false, eval e X.env) :: starEach es X.env := by rfl) (hpl : (backTo pos (starEach es X.env)).any (·.1) = false := by rfl) :
    PE X (.Call (.Name x p) (e :: es) [] pos) (tExV C sp ta) := by
  refine ⟨fun pins s σ H Q I h => ?_⟩
  obtain ⟨nm, q, N, bs, bm, sn, sub, ab, col, dd, k0, k1, k2, k3, k5, Bn, newId, initId, bmB, hC, FB, hT, hob, hps⟩ := T.cls
  refine wpAny_Call_Name_kw (ld_glob I hg hm ?_ hdb)
  refine PySem.W.callWith_K (h₀ := X.base) I.ok.mod.kin T.kC (thn (ha.run pos pins s σ H _ I h) fun us s1 ⟨vs, H1, I1, r1, hz, q1⟩ => ⟨I1.kIn, ?_⟩) he hpl
  show wpAny _ _ (call (.ref C) us) _ _ _
  obtain ⟨hp, g, dr, tk, os⟩ := s1
  have hsz : hp.objs.size ≤ hp.objs.size + 1 := Nat.le_succ _
  have hn : H1 (hp.objs.size + 1) = none := I1.hok.fresh hsz
  have hq := q1 (hp.objs.size + 1) hn
  have kk : ∀ b o, hp.get? b = some o → ((hp.push (PySem.W.kdv_tup us)).push (PySem.HandSPX.excO C hp.objs.size)).get? b = some o := fun b o e => Heap.get?_push_of_some _ (Heap.get?_push_of_some _ e)
  have hget : ((hp.push (PySem.W.kdv_tup us)).push (PySem.HandSPX.excO C hp.objs.size)).get? (hp.objs.size + 1) = some (PySem.HandSPX.excO C hp.objs.size) := by heap_get
  have I2 : Inv X pins σ (upd H1 (hp.objs.size + 1) (exo (hp.objs.size + 1) C none)) ⟨(hp.push (PySem.W.kdv_tup us)).push (PySem.HandSPX.excO C hp.objs.size), g, dr, tk, os⟩ :=
    I1.laid (t' := tk) (a := hp.objs.size + 1) (o := exo (hp.objs.size + 1) C none) (h' := (hp.push (PySem.W.kdv_tup us)).push (PySem.HandSPX.excO C hp.objs.size)) kk hsz (exo_ok hget)
  have r2 : Vals (V.ref (hp.objs.size + 1) :: vs) (Value.ref (hp.objs.size + 1) :: us) := .cons rfl r1
  have hl : (Value.ref (hp.objs.size + 1) :: us ++ []).length = ps.length := by
    have e := r2.length
    rw [F1.len _ _ _ _ hq] at e
    rw [List.append_nil]
    exact e.symm
  have hus : us.length ≤ sizeLine := by
    rw [← Paired.length r1, sizeLine_eq]
    omega
  have b2 := hb _ (Value.ref (hp.objs.size + 1) :: us) I2.kIn hl
  rw [List.append_nil] at b2
  refine wpAny_call (PySem.HandSPX.call_own FB hT (I1.kIn _ _ hC) (PySem.W.looks_findIn I1.kIn iC) (fun self => PySem.W.bind_fn I1.kIn self tI) hus
    (codeAny_mono (F1.run _ X.stack _ _ ⟨Value.ref (hp.objs.size + 1) :: us, []⟩ (Value.ref (hp.objs.size + 1) :: us) _ _ (fun _ _ _ => False) (hr.make C us []) (I2.env0.make C us []) b2 r2 hq) fun r s' hq' => ?_))
  cases r with
  | error er => exact hx pins σ _ _ er s' I2 hq'
  | ok fl =>
    cases fl with
    | ret u =>
      obtain ⟨v, H2, os2, bare2, un2, hok2, rv, ev, q2⟩ := hq'
      subst ev
      obtain ⟨h2, g2, d2, t2, os'⟩ := s'
      have J : Inv X pins σ H2 ⟨h2, g2, d2, t2, os'⟩ := I2.call' (ch := []) os2 un2 hok2 bare2 (fun b z => absurd z (by simp))
      exact ⟨rv, .ref (hp.objs.size + 1), H2, J, rfl, q2⟩
    | next => exact False.elim hq'
    | brk => exact False.elim hq'
    | cont => exact False.elim hq'
/-! ### isinstance and fields of such a value -/
theorem instV {X : Cx} {pins : List (Addr × Obj)} {σ : L2.St} {H : Hp} {s : Shared} {a C d : Addr} {fs : List (Str × V)} (I : Inv X pins σ H s) (ha : H a = some (exo a C (some d))) (hd : H d = some (exd d fs)) :
    ∃ (oe od : Obj) (mA : Str → Option Value), PySem.W.InstAt s.heap a oe C (some od) ∧ (∀ f, RelO (fs.lookup f) (mA f)) ∧ ∀ n, PySem.W.lookIn n od = some (mA n) := by
  obtain ⟨t0, hoe⟩ := exo_at I.hok ha
  obtain ⟨mA, hns, hr⟩ := exd_at I.hok hd
  obtain ⟨od, ho, hl⟩ := lookIn_ns hns
  exact ⟨_, od, mA, ⟨hoe, rfl, rfl, ho⟩, hr, hl⟩
def rIsV (K : PySem.W.Frag) (C : Addr) : List V → Hp → VK → Prop := fun xs H Q => ∃ (a : Addr) (dx : Option Addr) (fs : List (Str × V)) (c : V) (cv : Value) (b : Bool), xs = [.ref a, c] ∧ ExoAt H a C dx fs ∧ (∀ u, RelV c u → u = cv) ∧ PySem.W.kitOne K (.ref C) cv = some b ∧ Q (.bl b) H
theorem call_isV {X : Cx} {C : Addr} (E : ExcC X.K C) : CallR X (.builtin "isinstance") (rIsV X.K C) := by
  intro pins s σ H xs us Q I r h
  obtain ⟨a, dx, fs, c, cv, b, rfl, hx, hcv, e, q⟩ := h
  cases r with
  | cons rx rr =>
    cases rr with
    | cons rt rr =>
      cases rr
      cases rx
      have ec := hcv _ rt
      subst ec
      obtain ⟨ha, hd⟩ := hx
      rcases hd with ⟨rfl, _⟩ | ⟨d, rfl, hd⟩
      · obtain ⟨t0, hoe⟩ := exo_at I.hok ha
        exact PySem.W.kia_one (PySem.W.handS_kitx_exc E.hg E.hk E.hs E.hd E.ha E.hn E.ht E.hm) I.kIn (⟨hoe, rfl, rfl, trivial⟩ : PySem.W.InstAt s.heap a _ C none) e (fun z => nomatch z) fun tk => ⟨.bl b, H, I.kept (t' := tk) fun _ _ z => z, rfl, q⟩
      · obtain ⟨oe, od, mA, J, _, _⟩ := instV I ha hd
        obtain ⟨cd, hc, _⟩ := PySem.W.any_some E.hd
        exact PySem.W.kia_one (PySem.W.kitx_exc (by rw [hc]; rfl) E.hg E.hk E.hs E.ha E.hn E.ht E.hm) I.kIn J e (fun z => nomatch z) fun tk => ⟨.bl b, H, I.kept (t' := tk) fun _ _ z => z, rfl, q⟩
def tXfV (C : Addr) (f : Str) (te : TE) : TE := fun σ H Q => te σ H fun x H1 => ∃ (a d : Addr) (fs : List (Str × V)) (v : V), x = .ref a ∧ H1 a = some (exo a C (some d)) ∧ H1 d = some (exd d fs) ∧ fs.lookup f = some v ∧ Q v H1
end Sb

set_option Elab.async false
set_option linter.all false
set_option maxRecDepth 100000
set_option maxHeartbeats 4000000
set_option autoImplicit false
namespace SbX
open PySem PySem.W PySem.Calls PyProof.Rows PySem.HandSPX
section
variable {M : Model} {prog : Program} {w : World} {A : Around} {E : Value → Shared → Prop} {R : Result → Shared → Prop} {h : Heap} {g : Array GenState} {d : Drawn} {t : Nat} {os : OsState}
variable {nm q : Str} {C N : Addr} {bs bm bmB : List Value} {hdct : Bool} {sn : List Str} {sub : List Value} {ab : Bool} {col : Option Bool} {dd : Option Addr} {k0 k1 k2 k3 k5 : Option Value} {B newId initId : String}
theorem check_newK (F : ExcBaseFacts B newId initId bmB) (hT : ∀ X : String, bm.contains (.type X) = bmB.contains (.type X)) {f : Str} {v : Value} {Q : Unit → Shared → Prop}
    (hC : h.get? C = some (excClassObj nm q C N bs bm hdct sn sub ab col dd k0 k1 k2 k3 k5 newId)) (hq : Q () ⟨h, g, d, t, os⟩) : wpAny M A (checkBuiltinCall newId ⟨[.ref C], [(f, v)]⟩) Q E ⟨h, g, d, t, os⟩ := by
  have hB : (Value.ref C :: bm).contains (.type B) = true := by rw [List.contains_cons, hT, F.hasB, Bool.or_true]
  have hs := F.noStar
  simp only [checkBuiltinCall, F.newKind, F.newSplit, F.newRow]
  repeat (first | refine wpAny_loadPart_at hC ?_ | (refine wpAny_isSubtype_exc hC ?_; rw [hB]) | refine wpAny_staticBase_exc hC ?_ | refine wpAny_madeBy_exc hC ?_ | simp only [bne_self_eq_false, Bool.false_eq_true, if_false] | wp_step)
  exact hq
theorem newK (F : ExcBaseFacts B newId initId bmB) (hT : ∀ X : String, bm.contains (.type X) = bmB.contains (.type X)) {f : Str} {v : Value}
    (hC : h.get? C = some (excClassObj nm q C N bs bm hdct sn sub ab col dd k0 k1 k2 k3 k5 newId))
    (hq : R (.ok (.ret (.ref (h.objs.size + 1)))) ⟨(h.push (W.kdv_tup [])).push (excO C h.objs.size), g, d, t, os⟩) :
    codeAny (model prog w) A (.builtin newId ⟨[.ref C], [(f, v)]⟩) R ⟨h, g, d, t, os⟩ := by
  have e0 := F.ends
  have e1 : (Value.ref C :: bm).contains (.type B) = true := by rw [List.contains_cons, hT, F.hasB, Bool.or_true]
  have e2 : (Value.ref C :: bm).contains (.type "AttributeError") = false := by rw [List.contains_cons, hT, F.noAttr]; rfl
  have e3 : (Value.ref C :: bm).contains (.type "NameError") = false := by rw [List.contains_cons, hT, F.noName]; rfl
  refine codeAny_builtinAt F.entry ?_
  unfold Builtin.«BaseException.__new__»
  refine PySem.wpAt_bind ?_
  show PySem.wpAt _ _ _ (stack >>= _) _ _ _
  refine PySem.wpAt_bind (PySem.wpAt_stack fun p below => PySem.wpAt_of_wpAny ?_)
  wp_walk
  refine PySem.wpAt_of_wpAny ?_
  rw [F.owner]
  repeat (first | with_reducible refine wpAny_madeHere_exc F.canon hC ?_ | with_reducible refine wpAny_loadPart_at hC ?_ | (with_reducible refine wpAny_isSubtype_exc hC ?_; first | rw [e1] | rw [e2] | rw [e3]) | wp_step)
  show R _ _
  rw [Heap.size_push]
  exact hq
theorem type_callK (F : ExcBaseFacts B newId initId bmB) (hT : ∀ X : String, bm.contains (.type X) = bmB.contains (.type X)) {f : Str} {v : Value} {fI : Addr} {Q : Fin → Shared → Prop}
    (hC : h.get? C = some (excClassObj nm q C N bs bm hdct sn sub ab col dd k0 k1 k2 k3 k5 newId))
    (hi : W.Looks (model prog w) h (typeLookup (.ref C) "__init__") (some (.ref fI))) (hb : ∀ self, W.Looks (model prog w) h (bindSpecial (.ref fI) self) (.ref fI, [self]))
    (hq : codeAny (model prog w) A (.call (.ref fI) ⟨[.ref (h.objs.size + 1)], [(f, v)]⟩)
      (fun r s' => match r with | .ok (.ret v) => v = .none ∧ Q (.done (.ret (.ref (h.objs.size + 1)))) s' | .ok _ => False | .error e => E e s')
      ⟨(h.push (W.kdv_tup [])).push (excO C h.objs.size), g, d, t, os⟩) :
    wpAny (model prog w) A (Builtin.«type.__call__» ⟨[.ref C], [(f, v)]⟩) Q E ⟨h, g, d, t, os⟩ := by
  repeat (first | with_reducible refine wpAny_loadPart_at hC ?_ | with_reducible refine wpAny_madeBy_exc hC ?_ | wp_step)
  refine codeAny_call_builtin_code (Code.quiet_builtin _ F.quiet) (check_newK F hT hC ?_)
  refine newK F hT hC ?_
  show wpAny _ _ _ _ _ _
  have k : ∀ b o, h.get? b = some o → ((h.push (W.kdv_tup [])).push (excO C h.objs.size)).get? b = some o := fun b o e => Heap.get?_push_of_some _ (Heap.get?_push_of_some _ e)
  have c1 := k _ _ hC
  have c2 : ((h.push (W.kdv_tup [])).push (excO C h.objs.size)).get? (h.objs.size + 1) = some (excO C h.objs.size) := by heap_get
  have c3 : (Value.ref C :: bm).contains (.ref C) = true := by simp
  have i1 := hi.keeps k
  have b1 := (hb (.ref (h.objs.size + 1))).keeps k
  unfold isInstance
  repeat (first | with_reducible refine wpAny_loadPart_at c2 ?_ | (with_reducible refine wpAny_isSubtype_exc c1 ?_; rw [c3]) | wp_step)
  show wpAny _ _ (typeLookup (.ref C) _) _ _ _
  refine i1.at ?_
  refine wpAny_holding (wpAny_bind (b1.at ?_))
  refine wpAny_bind (wpAny_call (codeAny_mono hq fun r s' z => ?_))
  rcases r with e | (v | _ | _ | _) <;> first | exact z | exact z.elim | skip
  obtain ⟨rfl, z⟩ := z
  first
    | exact wpAny_pure (wpAny_pure z)
    | (wp_walk; exact z)
theorem callK (F : ExcBaseFacts B newId initId bmB) (hT : ∀ X : String, bm.contains (.type X) = bmB.contains (.type X)) {f : Str} {v : Value} {fI : Addr}
    (hC : h.get? C = some (excClassObj nm q C N bs bm hdct sn sub ab col dd k0 k1 k2 k3 k5 newId))
    (hi : W.Looks (model prog w) h (typeLookup (.ref C) "__init__") (some (.ref fI))) (hb : ∀ self, W.Looks (model prog w) h (bindSpecial (.ref fI) self) (.ref fI, [self]))
    (hq : codeAny (model prog w) (A.under (.builtin "type.__call__" ⟨[.ref C], [(f, v)]⟩)) (.call (.ref fI) ⟨[.ref (h.objs.size + 1)], [(f, v)]⟩) (W.InitBack (h.objs.size + 1) R)
      ⟨(h.push (W.kdv_tup [])).push (excO C h.objs.size), g, d, t, os⟩) :
    codeAny (model prog w) A (.call (.ref C) ⟨[], [(f, v)]⟩) R ⟨h, g, d, t, os⟩ := by
  have f1 := tc_lookup
  have f2 := tc_bind (.ref C)
  have hTy : (⟨h, g, d, t, os⟩ : Shared).TypeIs (.ref C) "type" := ⟨_, hC, rfl⟩
  refine codeAny_of_tree ?_
  show wpAny _ _ (callAny (.ref C) _) _ _ _
  repeat (any_goals (first | assumption | with_reducible refine wpAny_loadPart_at hC ?_ | wp_step))
  refine ⟨rfl, ?_⟩
  refine codeAny_call_builtin_at (Code.quiet_builtin _ (by decide +kernel)) entry_typeCall (wpAny_check_type_call_sub hC (type_callK F hT hC hi hb ?_))
  refine codeAny_mono hq fun r s' z => ?_
  rcases r with e | (v | _ | _ | _) <;> exact z
end
end SbX

set_option Elab.async false
set_option linter.all false
set_option maxRecDepth 100000
set_option maxHeartbeats 4000000
set_option autoImplicit false
namespace Sb
open PySem PySem.Spec PyProof.Rows L2 TL
/-! ### C(f=e), an exception as a value -/
theorem pe_oexVK {X : Cx} {CX : CXT} {x f : Str} {C fI : Addr} {k : Nat} {fd : FuncData} {ps : List Str} {sp : Sp} {kws : List Keyword} {tk : TA} {p pos : Pos} (T : OexE X.K C) (iC : PySem.W.findIn X.K (.ref C) "__init__" = some (some (.ref fI))) (tI : PySem.W.typeIn X.K (.ref fI) = some (.type "function"))
    (F1 : FnOk X.prog X.w X.K X.mg X.base CX k fI fd ps sp) (hr : Room (k + 1) X.A) (hb : ∀ (s : Shared) (u v : Value), X.K.In s.heap → BindsTo s fd ⟨[u], [(f, v)]⟩ (ps.zip [u, v])) (hps : ps.length = 2) (hx : Passes CX X (fun _ _ _ => False)) (hg : Gl X x) (hm : X.mg x = some (.ref C)) (hkw : PK X kws tk)
    (hall : (backToKw pos (keywordEach kws X.env)).all (·.1.isSome) = true := by rfl) (hks : (backToKw pos (keywordEach kws X.env)).filterMap (·.1) = [f] := by rfl) (hdb : (x == ("__debug__" : Str)) = false := by decide)
    (hpl : ((backTo pos (starEach [] X.env)).any (·.1) || (backToKw pos (keywordEach kws X.env)).any (·.1.isNone)) = false := by rfl) :
    PE X (.Call (.Name x p) [] kws pos) (tExV C (fun vs H Q E => vs.length = 2 ∧ sp vs H Q E) tk) := by
  refine ⟨fun pins s σ H Q I h => ?_⟩
  obtain ⟨nm, q, N, bs, bm, sn, sub, ab, col, dd, k0, k1, k2, k3, k5, Bn, newId, initId, bmB, hC, FB, hT, hob, hpsx⟩ := T.cls
  refine wpAny_Call_Name_kw (ld_glob I hg hm ?_ hdb)
  refine PySem.W.callWith_KW0 (h₀ := X.base) I.ok.mod.kin T.kC hall ?_ hpl
  refine thn (hkw.run pos pins s σ H _ I h) fun ws s1 ⟨zs, H1, I1, rz, hz, q1⟩ => ⟨I1.kIn, ?_⟩
  rw [hks]
  obtain ⟨hp, g, dr, tk', os⟩ := s1
  have hsz : hp.objs.size ≤ hp.objs.size + 1 := Nat.le_succ _
  have hn : H1 (hp.objs.size + 1) = none := I1.hok.fresh hsz
  obtain ⟨hl2, hq⟩ := q1 (hp.objs.size + 1) hn
  obtain ⟨z, rfl⟩ : ∃ z, zs = [z] := by
    match zs, hl2 with
    | [z], _ => exact ⟨z, rfl⟩
  obtain ⟨u, rfl, ru⟩ : ∃ u, ws = [u] ∧ RelV z u := by
    cases rz with
    | cons r rr =>
      cases rr
      exact ⟨_, rfl, r⟩
  show wpAny _ _ (call (.ref C) [] [(f, u)]) _ _ _
  have kk : ∀ b o, hp.get? b = some o → ((hp.push (PySem.W.kdv_tup [])).push (PySem.HandSPX.excO C hp.objs.size)).get? b = some o := fun b o e => Heap.get?_push_of_some _ (Heap.get?_push_of_some _ e)
  have hget : ((hp.push (PySem.W.kdv_tup [])).push (PySem.HandSPX.excO C hp.objs.size)).get? (hp.objs.size + 1) = some (PySem.HandSPX.excO C hp.objs.size) := by heap_get
  have I2 : Inv X pins σ (upd H1 (hp.objs.size + 1) (exo (hp.objs.size + 1) C none)) ⟨(hp.push (PySem.W.kdv_tup [])).push (PySem.HandSPX.excO C hp.objs.size), g, dr, tk', os⟩ :=
    I1.laid (t' := tk') (a := hp.objs.size + 1) (o := exo (hp.objs.size + 1) C none) (h' := (hp.push (PySem.W.kdv_tup [])).push (PySem.HandSPX.excO C hp.objs.size)) kk hsz (exo_ok hget)
  have r2 : Vals [V.ref (hp.objs.size + 1), z] [Value.ref (hp.objs.size + 1), u] := .cons rfl (.cons ru .nil)
  refine wpAny_call (SbX.callK FB hT (I1.kIn _ _ hC) (PySem.W.looks_findIn I1.kIn iC) (fun self => PySem.W.bind_fn I1.kIn self tI)
    (codeAny_mono (F1.run _ X.stack _ _ ⟨[Value.ref (hp.objs.size + 1)], [(f, u)]⟩ [Value.ref (hp.objs.size + 1), u] _ _ (fun _ _ _ => False) (hr.make C [] [(f, u)]) (I2.env0.make C [] [(f, u)]) (hb _ _ _ I2.kIn) r2 hq) fun r s' hq' => ?_))
  cases r with
  | error er => exact hx pins σ _ _ er s' I2 hq'
  | ok fl =>
    cases fl with
    | ret y =>
      obtain ⟨v, H2, os2, bare2, un2, hok2, rv, ev, q2⟩ := hq'
      subst ev
      obtain ⟨h2, g2, d2, t2, os'⟩ := s'
      have J : Inv X pins σ H2 ⟨h2, g2, d2, t2, os'⟩ := I2.call' (ch := []) os2 un2 hok2 bare2 (fun b z => absurd z (by simp))
      exact ⟨rv, .ref (hp.objs.size + 1), H2, J, rfl, q2⟩
    | next => exact False.elim hq'
    | brk => exact False.elim hq'
    | cont => exact False.elim hq'
end Sb

set_option Elab.async false
set_option linter.all false
set_option maxRecDepth 100000
set_option maxHeartbeats 4000000
set_option autoImplicit false
namespace Sb
open PySem PySem.Spec PyProof.Rows L2 TL
/-! ### C(), a class without its own __init__ -/
def tEx0 (C : Addr) : TE := fun _ H Q => ∀ a, H a = none → Q (.ref a) (upd H a (exo a C none))
theorem pe_exc0V {X : Cx} {C : Addr} {bmB : List Value} {B newId initId : String} {x : Str} {p pos : Pos} (F : ExcBaseFacts B newId initId bmB) (q : PySem.W.excIn X.K C bmB newId = true) (gC : X.mg x = some (.ref C)) (kC : PySem.W.keepIn X.K (.ref C) = true) (hg : Gl X x) (hdb : (x == ("__debug__" : Str)) = false := by decide) :
    PE X (.Call (.Name x p) [] [] pos) (tEx0 C) := by
  refine ⟨fun pins s σ H Q I h => ?_⟩
  refine wpAny_Call_Name_kw (ld_glob I hg gC ?_ hdb)
  refine PySem.W.callWith_K0 I.kIn kC ?_
  show wpAny _ _ (call (.ref C) []) _ _ _
  obtain ⟨bm, N, nm, qn, bs, hdct, sn, sub, ab, col, dd, k0, k1, k2, k3, k5, mN, hC, hN, hni, T⟩ := exc_obj I.kIn q
  refine wpAny_call_exc_subT F T hC hN hni (fun h' a hm => ?_) (by show 0 ≤ sizeLine; omega)
  have hn : H a = none := I.hok.gone hm.new
  obtain ⟨t, ht, _, _⟩ := hm.there
  exact ⟨.ref a, upd H a (exo a C none), I.laidN hm.keeps hm.new hn (exo_ok ht), rfl, h a hn⟩
/-! ### the judgements -/
section
variable {K : KX} {S : List Addr} {G : List Sl}
theorem eg_exV {te : TE} {C : Addr} {f : Str} {d : Dt} (T : OexE K C) (no : PySem.W.findIn K (.ref C) f = some none) (he : Eg K S G te (· = d)) : Eg K S G (tExV C (spO K f) (tCons te tNil)) (· = .obj C [(f, d)]) := fun B O σ H hh Q k =>
  he B O σ H hh _ fun v H1 d' hd h1 g1 d1 => ⟨by show 1 ≤ 1000; decide, fun a ha => ⟨a, C, v, rfl, T, no, upd_same, fun dx h2 h3 => ⟨rfl, by
    subst hd
    have hx : H1 dx = none := by rw [← upd_ne h3 (H := H1) (o := exo a C none)]; exact h2
    have ex : Ex H1 (upd (upd (upd H1 a (exo a C none)) dx (exd dx [(f, v)])) a (exo a C (some dx))) := fun b o e => by
      have n1 : b ≠ a := fun z => by rw [z, ha] at e; cases e
      have n2 : b ≠ dx := fun z => by rw [z, hx] at e; cases e
      rw [upd_ne n1, upd_ne n2, upd_ne n1]
      exact e
    have oa := h1.trk.out ha
    have ox := h1.trk.out hx
    have gg := hid_monoN (P := pof O G) fun b o _ z n => ex.n b o z n
    refine k _ _ _ rfl (h1.more ex) (g1.trans gg) ⟨a, some dx, [(f, v)], rfl, ⟨?_, .inr ⟨dx, rfl, ?_⟩⟩, v, [], rfl, Dn.mono gg _ d1, rfl⟩
    · rw [hid_out oa, upd_same]
    · rw [hid_out ox, upd_ne h3, upd_same]⟩⟩⟩
theorem eg_exVK {te : TE} {C : Addr} {f : Str} {d : Dt} (T : OexE K C) (no : PySem.W.findIn K (.ref C) f = some none) (he : Eg K S G te (· = d)) : Eg K S G (tExV C (fun vs H Q E => vs.length = 2 ∧ spO K f vs H Q E) (tCons te tNil)) (· = .obj C [(f, d)]) := fun B O σ H hh Q k =>
  he B O σ H hh _ fun v H1 d' hd h1 g1 d1 => ⟨by show 1 ≤ 1000; decide, fun a ha => ⟨rfl, a, C, v, rfl, T, no, upd_same, fun dx h2 h3 => ⟨rfl, by
    subst hd
    have hx : H1 dx = none := by rw [← upd_ne h3 (H := H1) (o := exo a C none)]; exact h2
    have ex : Ex H1 (upd (upd (upd H1 a (exo a C none)) dx (exd dx [(f, v)])) a (exo a C (some dx))) := fun b o e => by
      have n1 : b ≠ a := fun z => by rw [z, ha] at e; cases e
      have n2 : b ≠ dx := fun z => by rw [z, hx] at e; cases e
      rw [upd_ne n1, upd_ne n2, upd_ne n1]
      exact e
    have oa := h1.trk.out ha
    have ox := h1.trk.out hx
    have gg := hid_monoN (P := pof O G) fun b o _ z n => ex.n b o z n
    refine k _ _ _ rfl (h1.more ex) (g1.trans gg) ⟨a, some dx, [(f, v)], rfl, ⟨?_, .inr ⟨dx, rfl, ?_⟩⟩, v, [], rfl, Dn.mono gg _ d1, rfl⟩
    · rw [hid_out oa, upd_same]
    · rw [hid_out ox, upd_ne h3, upd_same]⟩⟩⟩
theorem eg_ex0 {C : Addr} : Eg K S G (tEx0 C) (· = .obj C []) := fun B O σ H hh Q k a ha =>
  k _ _ _ rfl (hh.more (new_ex ha)) (hid_new ha) ⟨a, none, [], rfl, ⟨by rw [hid_out (hh.trk.out ha)]; exact upd_same, .inl ⟨rfl, rfl⟩⟩, rfl⟩
/-! ### isinstance and fields, whichever of the classes it is of -/
def rIsL (K : PySem.W.Frag) (Cs : List Addr) : List V → Hp → VK → Prop := fun xs H Q => ∃ C ∈ Cs, rIsV K C xs H Q
theorem call_isL {X : Cx} {Cs : List Addr} (E : ∀ C ∈ Cs, ExcC X.K C) : CallR X (.builtin "isinstance") (rIsL X.K Cs) := by
  intro pins s σ H xs us Q I r h
  obtain ⟨C, hC, h⟩ := h
  exact call_isV (E C hC) pins s σ H xs us Q I r h
theorem ed_isV {te : TE} {Cs : List Addr} {C : Addr} {ds : List (Str × Dt)} {c : V} {cv : Value} {b : Bool} (hC : C ∈ Cs) (h : Eg K S G te (· = .obj C ds)) (hcv : ∀ u, RelV c u → u = cv) (hk : PySem.W.kitOne K.fr (.ref C) cv = some b) : Eg K S G (tCB (rIsL K Cs) (tCons te (tCons (tC c) tNil))) (· = .bl b) := fun B O σ H hh Q k =>
  h B O σ H hh _ fun v H1 d hd h1 g1 d1 => by
    subst hd
    obtain ⟨a, dx, fs, rfl, ⟨e1, e2⟩, e3⟩ := d1
    refine ⟨C, hC, a, dx, fs, c, cv, b, rfl, ⟨hid_ex _ _ _ e1, e2.elim .inl fun ⟨d, z1, z2⟩ => .inr ⟨d, z1, hid_ex _ _ _ z2⟩⟩, hcv, hk, k _ _ _ rfl h1 g1 rfl⟩
def tXfL (Cs : List Addr) (f : Str) (te : TE) : TE := fun σ H Q => te σ H fun x H1 => ∃ C ∈ Cs, ∃ (a d : Addr) (fs : List (Str × V)) (v : V), x = .ref a ∧ H1 a = some (exo a C (some d)) ∧ H1 d = some (exd d fs) ∧ fs.lookup f = some v ∧ Q v H1
theorem pe_xfL {X : Cx} {Cs : List Addr} {e : Expr} {te : TE} {pos : Pos} {n : Str} (T : ∀ C ∈ Cs, XfC X.K C ∧ PySem.W.findIn X.K (.ref C) n = some none) (he : PE X e te) (hb : attributeBase e n X.env (eval e X.env) = eval e X.env := by rfl) :
    PE X (.Attribute e n pos) (tXfL Cs n te) := by
  refine ⟨fun pins s σ H Q I h => ?_⟩
  refine attr_of hb (thn (he.run pins s σ H _ I h) fun u s1 hh => ?_)
  obtain ⟨x, H1, I1, rx, C, hC, a, d, fs, v, ex, ea, ed, l, q⟩ := hh
  subst ex
  obtain rfl : u = Value.ref a := rx
  obtain ⟨oe, od, mA, J, hr, hl⟩ := instV I1 ea ed
  obtain ⟨u, hu, ru⟩ := RelO.some_of (v := v) (o := mA n) (by rw [← l]; exact hr n)
  exact HandSPX.exc_get I1.kIn J (T C hC).1.ga (T C hC).1.gg (T C hC).1.exC (PySem.W.findObj_own (T C hC).1.hdC (T C hC).2 rfl (by rw [hl, hu])) (handed_of ru) ⟨v, H1, I1.tok _, ru, q⟩
theorem ed_xfV {te : TE} {Cs : List Addr} {C : Addr} {f : Str} {d : Dt} (hC : C ∈ Cs) (h : Eg K S G te (· = .obj C [(f, d)])) : Eg K S G (tXfL Cs f te) (· = d) := fun B O σ H hh Q k =>
  h B O σ H hh _ fun v H1 d' hd h1 g1 d1 => by
    subst hd
    obtain ⟨a, dx, fs, rfl, ⟨e1, e2⟩, v, r, rfl, e3, e4⟩ := d1
    cases (show r = [] from e4)
    rcases e2 with ⟨_, e2⟩ | ⟨y, rfl, e2⟩
    · cases e2
    · exact ⟨C, hC, a, y, [(f, v)], v, rfl, hid_ex _ _ _ e1, hid_ex _ _ _ e2, by simp, k _ _ _ rfl h1 g1 e3⟩
end
end Sb

set_option Elab.async false
set_option linter.all false
set_option maxRecDepth 100000
set_option autoImplicit false
namespace Sb
open PySem PySem.Spec PyProof.Rows L2 TL
abbrev s__law_take : Stmt := top 32
abbrev N__law_take : List Str := ["_law_source_here", "_law_size", "_law_seed", "_law_by", "_law_digit"]
abbrev A__law_take : List Str := ["_law_source_here", "_law_size"]
theorem sc__law_take : FnScope N__law_take A__law_take (defScope s__law_take) :=
  ⟨rfl, rfl, rfl, by decide +kernel, rfl, by decide +kernel, by decide +kernel⟩
section
variable {P : Program} {w : World} {K : KX} {mg : Str → Option Value} {base : Heap} {aS aO C : Addr}
theorem nat_mod {i : Int} {n : Nat} (h : 0 < n) : ∃ r : Nat, i % (n : Int) = (r : Int) ∧ r < n := by
  have h1 := Int.emod_nonneg i (b := (n : Int)) (by omega)
  have h2 := Int.emod_lt_of_pos i (b := (n : Int)) (by omega)
  exact ⟨(i % (n : Int)).toNat, by omega, by omega⟩
abbrev sp_take (K : KX) : Sp := spXS K (fun n : Nat => [Dt.int (n : Int)]) (fun n => 0 < n ∧ n ≤ 1000000000) (fun n e => ∃ r : Nat, e = .int (r : Int) ∧ r < n)
theorem ok__law_take {f : Addr} {fd : FuncData} (F : Fun K "_law_take" "_law_take" s__law_take f fd) (B : Bf K mg aS aO) : FnOk P w K mg base CX0 1 f fd A__law_take (sp_take K) := by
  refine fn_xs F sc__law_take (fun _ => rfl) fun cdv A outer s H E hr => ⟨_, (pss_cons (ps_set (i := 2) sc__law_take.nd rfl (Or.inl rfl) (pe_callTy call_intA (by rfl) B.n_int (by decide +kernel) (pa_cons (pe_ix (ix_anyK (K := K)) (pv 0) pe_int (fun _ _ => rfl)) pa_nil))) (pss_cons (ps_asg (pe_op (op_addK (K := K)) (pe_ix (ix_anyK (K := K)) (pv 0) pe_int (fun _ _ => rfl)) pe_int) (pg_sub (pv 0) pe_int set_list)) (pss_cons (ps_set (i := 3) sc__law_take.nd rfl (Or.inl rfl) (pe_op (op_addK (K := K)) (pe_op op_mod (pe_callTy call_intA (by rfl) B.n_int (by decide +kernel) (pa_cons (pv 2) pa_nil)) pe_int) pe_int)) (pss_cons (ps_asg (pe_op op_mod (pe_callTy call_intA (by rfl) B.n_int (by decide +kernel) (pa_cons (pe_op (op_addK (K := K)) (pe_op (op_addK (K := K)) (pe_op op_mul (pv 2) (pv 3)) (pe_op op_mul pe_int (pe_ix (ix_anyK (K := K)) (pv 0) pe_int (fun _ _ => rfl)))) pe_int) pa_nil)) pe_int) (pg_sub (pv 0) pe_int set_list)) (pss_cons (ps_if (pt_cmpR op_gt (pe_ix (ix_anyK (K := K)) (pv 0) pe_int (fun _ _ => rfl)) pe_int (nomark _)) (pss_cons (ps_asg (pe_callB call_divmod (by rfl) B.n_divmod (by decide +kernel) (pa_cons (pe_ix (ix_anyK (K := K)) (pv 0) pe_int (fun _ _ => rfl)) (pa_cons (pv 1) pa_nil))) (pg_tup rfl (pgs_cons (pg_sub (pv 0) pe_int set_list) (pgs_cons (pg_name (i := 4) sc__law_take.nd rfl (Or.inl rfl)) pgs_nil)))) (pss_one (ps_ret (pv 4)))) pss_nil) (pss_one (ps_ret (pe_op op_mod (pe_callTy call_intA (by rfl) B.n_int (by decide +kernel) (pa_cons (pe_op op_fdiv (pe_ix (ix_anyK (K := K)) (pv 0) pe_int (fun _ _ => rfl)) pe_int) pa_nil)) (pv 1))))))))), fun p n hn => ?_⟩
  have n0 : 0 < n := hn.1
  have n1 : n ≤ 1000000000 := hn.2
  refine q_setP (p := isI) (ei_to (ei_int (p := fun _ => True) (ei_of (eg_src rfl (.inr (.inl rfl)))))) fun d hd => ?_
  obtain ⟨sd, rfl⟩ := hd
  refine run_seq (N1 := (· = [.sr p, .da (.int (n : Int)), .da (.int sd), .un, .un])) (run_srcSet rfl (.inr (.inr rfl)) (ei_to (ei_add (p := fun _ => True) (q := fun _ => True) (r := fun _ => True) (ei_of (eg_src rfl (.inr (.inr rfl)))) (ei_of (eg_imp eg_int fun d e => ⟨_, e⟩)) fun _ _ _ _ => trivial)) rfl) fun G1 e => ?_
  subst e
  refine q_set (d := .int (sd % 30011 + 40009)) (ed_addI (ed_mod (ed_cb (ea_1 (eg_var rfl)) (rc_intI rfl)) eg_int (by decide)) eg_int) ?_
  have b1 := Int.emod_nonneg sd (b := 30011) (by decide)
  have b2 := Int.emod_lt_of_pos sd (b := 30011) (by decide)
  refine run_seq (N1 := (· = [.sr p, .da (.int (n : Int)), .da (.int sd), .da (.int (sd % 30011 + 40009)), .un])) (run_srcSet rfl (.inr (.inl rfl)) (ei_to (ei_opI (p := fun _ => True) (q := fun j => 0 < j) (r := fun _ => True) (ei_int (p := fun _ => True)
    (ei_add (p := fun _ => True) (q := fun _ => True) (r := fun _ => True) (ei_add (p := fun _ => True) (q := fun _ => True) (r := fun _ => True) (ei_of (eg_imp (ed_mul (eg_var rfl) (eg_var rfl) (.inr ⟨by omega, by omega⟩)) fun d e => ⟨_, e⟩))
      (ei_opI (p := fun i => i = 70001) (q := fun _ => True) (r := fun _ => True) (ei_eq eg_int) (ei_of (eg_src rfl (.inr (.inr rfl)))) (fun i j e _ => .inl ⟨by rw [e]; decide, by rw [e]; decide⟩) fun _ _ _ _ => trivial) fun _ _ _ _ => trivial)
      (ei_of (eg_imp eg_int fun d e => ⟨_, e⟩)) fun _ _ _ _ => trivial)) (eg_imp eg_int fun d e => ⟨_, e, by decide⟩) (fun _ _ _ h => h) fun _ _ _ _ => trivial)) rfl) fun G1 e => ?_
  subst e
  refine run_seq (N1 := (· = [.sr p, .da (.int (n : Int)), .da (.int sd), .da (.int (sd % 30011 + 40009)), .un])) (run_if (p := fun _ => True) (et_gt (p := fun _ => True) (q := fun _ => True) (ei_of (eg_src rfl (.inl rfl))) (ei_of (eg_imp eg_int fun d e => ⟨_, e⟩)) fun _ _ _ _ => trivial) (fun _ => ?_) fun _ => run_next rfl) fun G1 e => ?_
  · refine run_seq (N1 := fun G => ∃ r : Nat, r < n ∧ G = [.sr p, .da (.int (n : Int)), .da (.int sd), .da (.int (sd % 30011 + 40009)), .da (.int (r : Int))]) (run_srcDm (q := fun r => ∃ j : Nat, r = (j : Int) ∧ j < n) rfl rfl rfl (eg_cb (ea_2p (eg_src rfl (.inl rfl)) (eg_var rfl)) fun ds ⟨x, y, ⟨i, ei⟩, ey, e⟩ => ?_) fun r ⟨j, ej, hj⟩ => ⟨j, hj, by rw [ej]; rfl⟩) fun G1 hG => ?_
    · subst e ei ey
      exact rc_dm ⟨by omega, by omega⟩ ⟨_, _, rfl, nat_mod n0⟩
    · obtain ⟨r, hr, rfl⟩ := hG
      exact run_ret (eg_imp (eg_var rfl) fun d e => ⟨r, e, hr⟩)
  · subst e
    refine run_ret (eg_imp (ei_opI (p := fun _ => True) (q := fun j => j = (n : Int)) (r := fun k => ∃ r : Nat, k = (r : Int) ∧ r < n) (ei_int (p := fun _ => True) (ei_opI (p := fun _ => True) (q := fun j => j = 97) (r := fun _ => True) (ei_of (eg_src rfl (.inr (.inl rfl)))) (ei_eq eg_int) (fun i j _ e => ⟨by rw [e]; decide, by rw [e]; decide⟩) fun _ _ _ _ => trivial)) (ei_eq (eg_var rfl)) (fun i j _ e => by rw [e]; omega) fun i j _ e => by rw [e]; exact nat_mod n0) fun d ⟨k, e, r, er, hr⟩ => ⟨r, by rw [e, er], hr⟩)
theorem ed_take {S : List Addr} {G : List Sl} {i : Nat} {p : Addr} {te : TE} {n : Nat} (hi : G[i]? = some (.sr p)) (he : Eg K S G te (· = .int (n : Int))) (h0 : 0 < n) (h1 : n ≤ 1000000) : Eg K S G (tCall (sp_take K) [] E0 (tCons (tVar i) (tCons te tNil))) (fun d => ∃ r : Nat, d = .int (r : Int) ∧ r < n) :=
  eg_callXS hi (ea_1 he) fun ds e => ⟨n, e, ⟨h0, Nat.le_trans h1 (by decide)⟩, fun d h => h⟩
theorem ed_takeB {S : List Addr} {G : List Sl} {i : Nat} {p : Addr} {te : TE} {n : Nat} (hi : G[i]? = some (.sr p)) (he : Eg K S G te (· = .int (n : Int))) (h0 : 0 < n) (h1 : n ≤ 1000000000) : Eg K S G (tCall (sp_take K) [] E0 (tCons (tVar i) (tCons te tNil))) (fun d => ∃ r : Nat, d = .int (r : Int) ∧ r < n) :=
  eg_callXS hi (ea_1 he) fun ds e => ⟨n, e, ⟨h0, h1⟩, fun d h => h⟩
end
end Sb

set_option Elab.async false
set_option linter.all false
set_option maxRecDepth 100000
set_option autoImplicit false
namespace Sb
open PySem PySem.Spec PyProof.Rows L2 TL
abbrev s__law_source : Stmt := top 31
abbrev N__law_source : List Str := ["_law_script", "_law_k", "_law_seed", "_law_cell", "_law_digits"]
abbrev A__law_source : List Str := ["_law_script", "_law_k"]
theorem sc__law_source : FnScope N__law_source A__law_source (defScope s__law_source) :=
  ⟨rfl, rfl, rfl, by decide +kernel, rfl, by decide +kernel, by decide +kernel⟩
abbrev s_law : Stmt := top 39
abbrev N_law : List Str := ["_law_script", "_law_told", "_law_k"]
abbrev A_law : List Str := ["_law_script"]
theorem sc_law : FnScope N_law A_law (defScope s_law) :=
  ⟨rfl, rfl, rfl, by decide +kernel, rfl, by decide +kernel, by decide +kernel⟩
section
variable {P : Program} {w : World} {K : KX} {mg : Str → Option Value} {base : Heap} {aS aO C : Addr}
/-! ### the source -/
def sp_source (K : KX) : Sp := fun vs H Q _ => ∃ (a : Addr) (k : Nat) (ns : List Int), vs = [.ref a, .int (k : Int)] ∧ Tb K H ∧ SqL K H a (ns.map V.int) ∧ ns.length ≤ 63 ∧ ∀ p x y z H', (∀ o, NT o → H p ≠ some o) → ExN H H' → Tb K H' → H' p = some (.lst [.int x, .int y, .int z]) → Q (.ref p) H'
theorem hold_ex {B : Hp} {G : List Sl} {H : Hp} {σ : L2.St} (h : Hold K B [] [] G H σ) : ExN B H := fun a o e nt => (hid_some (h.ex a o e nt (by simp))).2
theorem ex_none {H H1 : Hp} {p : Addr} (e : ExN H H1) (h : H1 p = none) : ∀ o, NT o → H p ≠ some o := fun o n q => by
  rw [e p o q n] at h
  cases h
theorem src_fin {B H0 H : Hp} {G : List Sl} {σ : L2.St} {D : Ends} {tA : TA} (hh : Hold K B [] [] G H σ) (hB : ExN H0 B) (he : Ea K [] G tA (fun ds => ∃ x y z, ds = [.int x, .int y, .int z]))
    (k : ∀ p x y z H', (∀ o, NT o → H0 p ≠ some o) → ExN H0 H' → Tb K H' → H' p = some (.lst [.int x, .int y, .int z]) → D.rt (.ref p) H') : tRet (tLst tA) D σ H :=
  he B [] σ H hh _ fun vs H1 ds hd h1 g1 d1 => by
    obtain ⟨x, y, z, rfl⟩ := hd
    have ev : vs = [.int x, .int y, .int z] := dnA_v d1 rfl
    subst ev
    have e01 : ExN H0 H1 := hB.trans (hold_ex h1)
    exact ⟨by show 3 ≤ sizeLine; decide, fun p hp => k p x y z _ (ex_none e01 hp) (e01.trans (new_ex hp).n) (h1.tb.ext (new_ex hp)) upd_same⟩
theorem ea_3i {S : List Addr} {G : List Sl} {ta tb tc : TE} (ha : Eg K S G ta isI) (hb : Eg K S G tb isI) (hc : Eg K S G tc isI) : Ea K S G (tCons ta (tCons tb (tCons tc tNil))) (fun ds => ∃ x y z, ds = [.int x, .int y, .int z]) :=
  ea_cons ha (ea_2p hb hc) fun a b ⟨x, ex⟩ ⟨c, d, ⟨y, ey⟩, ⟨z, ez⟩, e⟩ => ⟨x, y, z, by rw [ex, e, ey, ez]⟩
theorem isi_of {S : List Addr} {G : List Sl} {te : TE} {k : Int} (h : Eg K S G te (· = .int k)) : Eg K S G te isI := eg_imp h fun d e => ⟨k, e⟩
theorem et_any {S : List Addr} {G : List Sl} {ta tb : TE} {g : Int → Int → Bool} (ha : Eg K S G ta isI) (hb : Eg K S G tb isI) : Et K S G (tTest (tOp (rI0 fun i j => .bl (g i j)) ta tb)) (fun _ => True) := et_tst (eg_op ha hb fun x y ⟨i, ei⟩ ⟨j, ej⟩ => by
  subst ei ej
  exact fun P H v w Q t d1 d2 k => ⟨i, j, d1, d2, rv_out k ⟨_, rfl, trivial⟩ rfl⟩)
theorem ok__law_source {f : Addr} {fd : FuncData} (F : Fun K "_law_source" "_law_source" s__law_source f fd) (B : Bf K mg aS aO) : FnOk P w K mg base CX0 1 f fd A__law_source (sp_source K) := by
  refine F.ok sc__law_source (fun vs H Q E h => by obtain ⟨a, k, ns, rfl, _⟩ := h; rfl) fun cdv A outer s H vs Q E hr h => ⟨_, (pss_cons (ps_set (i := 2) sc__law_source.nd rfl (Or.inl rfl) (pe_op (op_addK (K := K)) (pe_op op_mul pe_int (pv 1)) pe_int)) (pss_cons (ps_if (pt_cmpR op_lt (pv 1) (pe_callB (call_lenK (K := K)) (by rfl) B.n_len (by decide +kernel) (pa_cons (pv 0) pa_nil)) (nomark _)) (pss_cons (ps_set (i := 3) sc__law_source.nd rfl (Or.inl rfl) (pe_ix (ix_anyK (K := K)) (pv 0) (pv 1) (fun _ _ => rfl))) (pss_cons (ps_set (i := 4) sc__law_source.nd rfl (Or.inl rfl) (pe_ifExp ((pw_or (pt_cmpR op_lt (pv 3) pe_int (nomark _)) (pw_or1 (pt_cmpR op_ge (pv 3) (pe_op op_pow pe_int pe_int) (nomark _))))).pt (pe_callB call_abs (by rfl) B.n_abs (by decide +kernel) (pa_cons (pv 3) pa_nil)) pe_int)) (pss_one (ps_ret (pe_lst (pa_cons (pv 4) (pa_cons (pe_op op_mod (pe_callTy call_intA (by rfl) B.n_int (by decide +kernel) (pa_cons (pe_op (op_addK (K := K)) (pe_op op_mul (pv 3) pe_int) (pv 2)) pa_nil)) pe_int) (pa_cons pe_int pa_nil)))))))) pss_nil) (pss_cons (ps_for PassesOwn.never rfl (pi_anyK (K := K) (pe_slice (sl_anyK (K := K)) (pv 0) po_none (po_some pe_int))) (pg_name (i := 3) sc__law_source.nd rfl (Or.inl rfl)) (pss_one (ps_set (i := 2) sc__law_source.nd rfl (Or.inl rfl) (pe_op op_mod (pe_callTy call_intA (by rfl) B.n_int (by decide +kernel) (pa_cons (pe_op (op_addK (K := K)) (pe_op op_mul (pv 2) pe_int) (pv 3)) pa_nil)) pe_int)))) (pss_one (ps_ret (pe_lst (pa_cons pe_int (pa_cons (pv 2) (pa_cons pe_int pa_nil))))))))), ?_⟩
  obtain ⟨a, k, ns, rfl, tb, hq, hl, kk⟩ := h
  have h0 : Hold K H [] [] [.rf a, .da (.int (k : Int)), .un, .un, .un] H (L2.start N__law_source [.ref a, .int (k : Int)]) := by
    have ep : pof [] [.rf a, .da (.int (k : Int)), .un, .un, .un] = [] := rfl
    refine ⟨rfl, fun i s e => ?_, by rw [ep]; exact List.nodup_nil, rfl, fun b o e _ _ => by rw [ep, hid_out (by simp)]; exact e, fun q hq => (nomatch hq), fun q hq => (nomatch hq), tb⟩
    rw [ep]
    match i, e with
    | 0, e => cases e; exact ⟨_, rfl, rfl⟩
    | 1, e => cases e; exact ⟨_, rfl, _, rfl, rfl⟩
    | 2, e => cases e; exact ⟨_, rfl, trivial⟩
    | 3, e => cases e; exact ⟨_, rfl, trivial⟩
    | 4, e => cases e; exact ⟨_, rfl, trivial⟩
    | n + 5, e => simp at e
  generalize L2.start N__law_source [V.ref a, .int (k : Int)] = σ at h0
  refine hold_seq (N1 := fun G => ∃ sd : Int, G = [.rf a, .da (.int (k : Int)), .da (.int sd), .un, .un]) (run_set (i := 2) (s := .un) (p := isI) (isi_of (ed_addI (ed_mul eg_int (eg_var rfl) (.inl ⟨by decide, by decide⟩)) eg_int)) rfl rfl fun d ⟨j, e⟩ => ⟨j, by rw [e]; rfl⟩) h0 fun G1 σ1 H1 hG h1 => ?_
  obtain ⟨sd, rfl⟩ := hG
  have e01 : ExN H H1 := hold_ex h1
  have hq1 : SqL K H1 a (ns.map V.int) := e01.sqL hq
  have s0 : σ1[0]? = some (some (.ref a)) := by
    obtain ⟨o, e, z⟩ := h1.sl 0 _ rfl
    rw [e, show o = _ from z]
  have s1 : σ1[1]? = some (some (.int (k : Int))) := by
    obtain ⟨o, e, v, z, z2⟩ := h1.sl 1 _ rfl
    rw [e, z, show v = _ from z2]
  refine ⟨.int (k : Int), s1, .ref a, s0, .ref a, ns.length, rfl, .inl ⟨_, hq1, by rw [List.length_map]⟩, (k : Int), (ns.length : Int), rfl, rfl, _, rfl, ?_⟩
  by_cases hk : k < ns.length
  · rw [decide_eq_true (by omega)]
    refine iteT ?_
    have hget : (ns.map V.int)[k]? = some (.int ns[k]) := by rw [List.getElem?_map, List.getElem?_eq_getElem hk]; rfl
    refine ⟨.ref a, s0, .int (k : Int), s1, .inl ⟨a, _, (k : Int), .int ns[k], rfl, rfl, hq1, atI_nat hget, ?_⟩⟩
    have h2 := h1.set (i := 3) (d := .int ns[k]) (v := .int ns[k]) rfl rfl rfl
    dsimp only [tSeq]
    show tSeq (tAsg _ _) _ _ (σ1.set 3 (some (.int ns[k]))) H1
    refine hold_seq (N1 := fun G => ∃ dg : Int, G = [.rf a, .da (.int (k : Int)), .da (.int sd), .da (.int ns[k]), .da (.int dg)]) (run_set (i := 4) (s := .un) (p := isI) (eg_if (p := fun _ => True) (et_or (p := fun _ => True) (q := fun _ => True) (et_any (g := fun i j => decide (i < j)) (isi_of (eg_var rfl)) (isi_of eg_int)) (fun _ => et_any (g := fun i j => decide (j ≤ i)) (isi_of (eg_var rfl)) (isi_of (ed_pow eg_int eg_int ⟨by decide, by decide, by decide⟩))) (fun _ => trivial) fun _ _ _ => trivial)
      (fun _ => eg_cb (ea_1p (isi_of (eg_var rfl))) fun ds ⟨x, ⟨i, ex⟩, e⟩ => ?_) fun _ => isi_of eg_int) rfl rfl fun d ⟨j, e⟩ => ⟨j, by rw [e]; rfl⟩) h2 fun G2 σ2 H2 hG h2 => ?_
    · subst e ex
      intro P H vs Q t dn k
      obtain ⟨v, r, rfl, d1, d2⟩ := dn
      cases (show r = [] from d2)
      cases (show v = _ from d1)
      exact ⟨i, rfl, rv_out k ⟨_, rfl⟩ rfl⟩
    obtain ⟨dg, rfl⟩ := hG
    exact src_fin h2 (ExN.refl H) (ea_3i (isi_of (eg_var rfl)) (isi_of (ed_mod (ed_cb (ea_1 (ed_addI (ed_mul (eg_var rfl) eg_int (.inr ⟨by decide, by decide⟩)) (eg_var rfl))) (rc_intI rfl)) eg_int (by decide))) (isi_of eg_int)) kk
  · rw [decide_eq_false (by omega)]
    refine iteF ?_
    show tSeq _ _ _ σ1 H1
    refine ⟨.ref a, s0, 4, rfl, .inl ⟨a, _, rfl, hq1, fun p2 hp2 => .inl ⟨p2, rfl, ⟨_, SqL.of upd_same⟩, ?_⟩⟩⟩
    have h2 : Hold K H [] [] [.rf a, .da (.int (k : Int)), .da (.int sd), .un, .un] (upd H1 p2 (.lst (cutV (ns.map V.int) none (some 4)))) σ1 := h1.more (new_ex hp2)
    have ep : ∀ {G : List Sl}, ads G = [] → pof [] G = [] := fun e => by unfold pof; rw [e]; rfl
    have hB : ExN H (hid (upd H1 p2 (.lst (cutV (ns.map V.int) none (some 4)))) (pof [] [.rf a, .da (.int (k : Int)), .da (.int sd), .un, .un])) := fun b o e nt => h2.ex b o e nt (by simp)
    have hat : hid (upd H1 p2 (.lst (cutV (ns.map V.int) none (some 4)))) (pof [] [.rf a, .da (.int (k : Int)), .da (.int sd), .un, .un]) p2 = some (.lst (cutV (ns.map V.int) none (some 4))) := by
      rw [ep rfl, hid_out (by simp)]
      exact upd_same
    have hcell : ∀ {i : Nat} {x : V}, (cutV (ns.map V.int) none (some 4))[i]? = some x → ∃ c : Int, x = .int c := fun {i x} e => by
      have hm : x ∈ ns.map V.int := List.mem_of_mem_drop (List.mem_of_mem_take (List.mem_of_getElem? e))
      obtain ⟨c, _, rfl⟩ := List.mem_map.mp hm
      exact ⟨c, rfl⟩
    have h3 := h2.rebase
    generalize cutV (ns.map V.int) none (some 4) = xs at h2 h3 hB hat hcell
    generalize hid (upd H1 p2 (.lst xs)) (pof [] [.rf a, .da (.int (k : Int)), .da (.int sd), .un, .un]) = B2 at h3 hB hat
    refine ⟨fun i m σ' H' => m = xs.length - i ∧ i ≤ xs.length ∧ ∃ (sd : Int) (s3 : Sl), s3.ad = none ∧ Hold K B2 [] [] [.rf a, .da (.int (k : Int)), .da (.int sd), s3, .un] H' σ', ⟨xs.length, by omega, by omega, sd, .un, rfl, ?_⟩, ?_⟩
    · exact h3
    · rintro i m σ' H' ⟨rfl, hi, sd, s3, a3, hG⟩
      have hx : H' p2 = some (.lst xs) := hold_ex hG _ _ hat nt_lst
      by_cases hlt : i < xs.length
      · refine .inr ⟨⟨xs, _, SqL.of hx, List.getElem?_eq_getElem hlt⟩, fun σ2 H2 => ∃ (sd : Int) (s3 : Sl), s3.ad = none ∧ Hold K B2 [] [] [.rf a, .da (.int (k : Int)), .da (.int sd), s3, .un] H2 σ2, fun σ2 H2 h2 => ⟨xs.length - (i + 1), by omega, rfl, by omega, h2⟩, fun x H2 y => ?_⟩
        obtain ⟨rfl, hy⟩ := y
        obtain ⟨c, rfl⟩ := hcell (hy xs (SqL.of hx))
        have h3 := hG.set (i := 3) (d := .int c) (v := .int c) rfl a3 rfl
        refine run_set (N := fun G => ∃ (sd : Int) (s3 : Sl), s3.ad = none ∧ G = [.rf a, .da (.int (k : Int)), .da (.int sd), s3, .un]) (R := fun _ => False) (Bk := fun _ => False) (i := 2) (s := .da (.int sd)) (p := isI) (isi_of (ed_mod (ed_cb (ea_1 (ed_addI (ed_mul (eg_var rfl) eg_int (.inr ⟨by decide, by decide⟩)) (eg_var rfl))) (rc_intI rfl)) eg_int (by decide))) rfl rfl (fun d ⟨j, e⟩ => ⟨j, .da (.int c), rfl, by rw [e]; rfl⟩) B2 [] _ _ _ h3 (fun G4 σ4 H4 ⟨sd, s3, a3, e⟩ h4 => ⟨sd, s3, a3, by rw [← e]; exact h4⟩) (fun _ _ _ r => r.elim) fun _ _ _ r => r.elim
      · have e : i = xs.length := by omega
        refine .inl ⟨⟨xs, SqL.of hx, by omega⟩, ?_⟩
        exact src_fin hG hB (ea_3i (isi_of eg_int) (isi_of (eg_var rfl)) (isi_of eg_int)) kk
/-! ### the law -/
abbrev sp_right (K : KX) : Sp := spXS K (fun _ : Unit => []) (fun _ => True) (fun _ e => e = .bl true)
def sp_law (K : KX) : Sp := fun vs H Q _ => ∃ (a : Addr) (ns : List Int), vs = [.ref a] ∧ ns.length ≤ 63 ∧ Tb K H ∧ SqL K H a (ns.map V.int) ∧ ∀ H', Q (.bl true) H'
theorem sqL_past {H H1 H2 : Hp} {a p : Addr} {xs : List V} (h : SqL K H a xs) (hp : ∀ o, NT o → H p ≠ some o) (e1 : ExN H H1) (e2 : ∀ b o, b ≠ p → H1 b = some o → NT o → H2 b = some o) : SqL K H2 a xs := by
  have key : ∀ {o : HO}, NT o → H a = some o → H2 a = some o := fun {o} n h => e2 _ _ (fun z => hp o n (by rw [← z]; exact h)) (e1 _ _ h n) n
  rcases h with (h | ⟨o, h⟩) | h
  · exact .inl (.inl (key nt_lst h))
  · exact .inl (.inr ⟨o, key nt_frz h⟩)
  · exact .inr h
end
end Sb

set_option Elab.async false
set_option linter.all false
set_option maxRecDepth 100000
set_option autoImplicit false
namespace Sb
open PySem PySem.Spec PyProof.Rows L2 TL
/-! ### repr of data with {} in it -/
mutual
def Dt.okE : Nat → Dt → Prop
  | _, .non => True
  | _, .bl _ => True
  | _, .int i => i.natAbs.log2 < 1920
  | _, .str x => ∀ c ∈ x.cps.toList, c < 16 ^ 8
  | n, .lst ds => 1 ≤ n ∧ okEA (n - 1) ds
  | n, .tup ds => 1 ≤ n ∧ okEA (n - 1) ds
  | n, .dic ks => 1 ≤ n ∧ ks = []
  | _, .dii _ => False
  | _, .obj _ _ => False
def okEA : Nat → List Dt → Prop
  | _, [] => True
  | n, d :: ds => d.okE n ∧ okEA n ds
end
structure ShowsE (n : Nat) (d : Dt) : Prop where
  sh : d.py.showable = true
  dp : d.py.depth ≤ n
  ln : d.py.shown.length ≤ d.wid
mutual
theorem showsE : ∀ (n : Nat) (d : Dt), d.okE n → ShowsE n d
  | n, .non, _ => ⟨rfl, Nat.zero_le _, by show (Str.ofString "None").length ≤ 5; decide⟩
  | n, .bl b, _ => ⟨rfl, Nat.zero_le _, by
      cases b
      · show (Str.ofString "False").length ≤ 5
        decide
      · show (Str.ofString "True").length ≤ 5
        decide⟩
  | n, .int i, h => ⟨decide_eq_true h, Nat.zero_le _, Nat.le_refl _⟩
  | n, .str x, h => ⟨rfl, Nat.zero_le _, PySem.StrLaws.reprText_len x h⟩
  | n, .lst ds, h => by
    obtain ⟨p2, p4, p5⟩ := showsEA (n - 1) ds h.2
    have h1 := h.1
    refine ⟨p2, ?_, ?_⟩
    · show PyData.depthAll (pyA ds) + 1 ≤ n
      omega
    · show (listText (PyData.shownAll (pyA ds))).length ≤ widA ds + 2
      have := listText_le (PyData.shownAll (pyA ds))
      omega
  | n, .tup ds, h => by
    obtain ⟨p2, p4, p5⟩ := showsEA (n - 1) ds h.2
    have h1 := h.1
    refine ⟨p2, ?_, ?_⟩
    · show PyData.depthAll (pyA ds) + 1 ≤ n
      omega
    · show (tupleText (PyData.shownAll (pyA ds))).length ≤ widA ds + 3
      have := tupleText_le (PyData.shownAll (pyA ds))
      omega
  | n, .dic ks, h => ⟨rfl, h.1, by show (dictText []).length ≤ 5; decide +kernel⟩
  | _, .dii _, h => h.elim
  | _, .obj _ _, h => h.elim
theorem showsEA : ∀ (n : Nat) (ds : List Dt), okEA n ds → PyData.showableAll (pyA ds) = true ∧ PyData.depthAll (pyA ds) ≤ n ∧ piled (PyData.shownAll (pyA ds)) ≤ widA ds
  | n, [], _ => ⟨rfl, Nat.zero_le _, Nat.zero_le _⟩
  | n, d :: ds, h => by
    obtain ⟨q2, q4, q5⟩ := showsE n d h.1
    obtain ⟨p2, p4, p5⟩ := showsEA n ds h.2
    refine ⟨?_, ?_, ?_⟩
    · show (d.py.showable && PyData.showableAll (pyA ds)) = true
      rw [q2, p2]; rfl
    · show max d.py.depth (PyData.depthAll (pyA ds)) ≤ n
      omega
    · show piled (d.py.shown :: PyData.shownAll (pyA ds)) ≤ d.wid + 2 + widA ds
      rw [piled_cons]
      omega
end
section
variable {X : Cx} {pins : List (Addr × Obj)} {σ : L2.St} {H : Hp} {s : Shared}
theorem dic_here {a : Addr} (I : Inv X pins σ H s) (e : H a = some (.dK [])) : ∃ o n, s.heap.get? a = some o ∧ o.cls = .type "dict" ∧ o.data = .dict #[] n ∧ (a == sysModules) = false := by
  obtain ⟨_, y, vs, r, ob, es, ep, e1, e2, e3, e4, e5, e6⟩ := I.hok a _ e
  have hv : vs = [] := by
    cases r
    rfl
  subst hv
  have he : es.toList = [] := by
    generalize es.toList = l at e5
    cases e5
    rfl
  have he' : es = #[] := by
    cases es
    cases (show _ = [] from he)
    rfl
  subst he'
  exact ⟨ob, ep, e1, e2.1, e3, y⟩
mutual
theorem rk_of (I : Inv X pins σ H s) : ∀ (n : Nat) (d : Dt) {v : V} {u : Value}, d.okE n → d.py.shown.length ≤ sizeLine → Dn X.K H d v → RelV v u →
    (∃ as, Reads s.heap u d.py as) ∧ ∃ bs, ReadAtMost s.heap d.py.depth bs ∧ ReprK X.prog X.w bs s.heap d.py.depth u d.py.shown
  | n, .non, _, _, _, hz, h, r => by
    cases (show _ = _ from h)
    cases r
    exact ⟨⟨_, Reads.none⟩, ReprK.of_reads Reads.none rfl (fun z => by cases z) hz⟩
  | n, .bl b, _, _, _, hz, h, r => by
    cases (show _ = _ from h)
    cases r
    exact ⟨⟨_, Reads.bool b⟩, ReprK.of_reads (Reads.bool b) rfl (fun z => by cases z) hz⟩
  | n, .int i, _, _, ho, hz, h, r => by
    cases (show _ = _ from h)
    obtain ⟨t, rfl⟩ := r
    exact ⟨⟨_, Reads.int i t⟩, ReprK.of_reads (Reads.int i t) (showsE n (.int i) ho).sh (fun z => by cases z) hz⟩
  | n, .str x, _, _, ho, hz, h, r => by
    cases (show _ = _ from h)
    obtain ⟨t, rfl⟩ := r
    exact ⟨⟨_, Reads.str x t⟩, ReprK.of_reads (Reads.str x t) rfl (fun z => by cases z) hz⟩
  | n, .lst ds, _, _, ho, hz, h, r => by
    obtain ⟨a, xs, rfl, h1, h2⟩ := h
    cases r
    obtain ⟨its, rv, ⟨o, m, ho1, hc, _, hd⟩, _⟩ := I.list (SqL.of (K := X.K) h1)
    have hz' : (listText (PyData.shownAll (pyA ds))).length ≤ sizeLine := hz
    obtain ⟨⟨as, hr⟩, bs, hb, hk⟩ := rkA_of I (n - 1) ds ho.2 (fun t ht => Nat.le_trans (listText_mem_le ht) hz') h2 rv
    have rd : Reads s.heap (.ref a) (.list (pyA ds)) (a :: as) := Reads.list ho1 hc hd (by simpa using hr)
    have hna : a ∉ bs := not_mem_of_deeper rd (by simp only [PyData.depth]; omega) hb
    refine ⟨⟨_, rd⟩, a :: bs, ReadAtMost.cons rd (by show (PyData.list (pyA ds)).depth ≤ (PyData.list (pyA ds)).depth; exact Nat.le_refl _) (hb.mono (by show _ ≤ (PyData.list (pyA ds)).depth; simp only [PyData.depth]; omega)), ?_⟩
    show ReprK X.prog X.w (a :: bs) s.heap (PyData.list (pyA ds)).depth (.ref a) (listText (PyData.shownAll (pyA ds)))
    simp only [PyData.depth]
    cases its with
    | nil =>
      have e0 : PyData.shownAll (pyA ds) = [] := List.length_eq_zero_iff.mp (by simpa using hk.length_eq)
      rw [e0, listText_nil]
      exact ReprK.listEmpty ho1 hc hd
    | cons x l => exact ReprK.list ho1 hc hd hna (by simpa using hk.length_eq) (fun i y e => hk.item i y (by simpa using e))
  | n, .tup ds, _, _, ho, hz, h, r => by
    obtain ⟨a, xs, rfl, h1, h2⟩ := h
    cases r
    obtain ⟨its, rv, ⟨o, ho1, hc, m, hd⟩, _⟩ := I.tuple h1
    have hz' : (tupleText (PyData.shownAll (pyA ds))).length ≤ sizeLine := hz
    obtain ⟨⟨as, hr⟩, bs, hb, hk⟩ := rkA_of I (n - 1) ds ho.2 (fun t ht => Nat.le_trans (tupleText_mem_le ht) hz') h2 rv
    have rd : Reads s.heap (.ref a) (.tuple (pyA ds)) as := Reads.tuple ho1 hc hd (by simpa using hr)
    have hna : a ∉ bs := not_mem_of_deeper rd (by simp only [PyData.depth]; omega) hb
    refine ⟨⟨_, rd⟩, a :: bs, ReadAtMost.cons rd (by show (PyData.tuple (pyA ds)).depth ≤ (PyData.tuple (pyA ds)).depth; exact Nat.le_refl _) (hb.mono (by show _ ≤ (PyData.tuple (pyA ds)).depth; simp only [PyData.depth]; omega)), ?_⟩
    show ReprK X.prog X.w (a :: bs) s.heap (PyData.tuple (pyA ds)).depth (.ref a) (tupleText (PyData.shownAll (pyA ds)))
    simp only [PyData.depth]
    exact ReprK.tuple ho1 hc hd hna (by simpa using hk)
  | n, .dic ks, _, _, ho, hz, h, r => by
    cases ho.2
    obtain ⟨a, kvs, rfl, h1, h2⟩ := h
    cases (show kvs = [] from h2)
    cases r
    obtain ⟨o, m, e1, e2, e3, e4⟩ := dic_here I h1
    have rd : Reads s.heap (.ref a) (.dict []) (a :: [] ++ []) := Reads.dict (kvs := []) e1 e2 e3 ReadsAll.nil ReadsAll.nil
    refine ⟨⟨_, rd⟩, [a], ReadAtMost.cons rd (Nat.le_refl _) (fun _ z => nomatch z), ?_⟩
    exact ReprK.dict (ps := []) e1 e2 e3 e4 (by simp) .nil
  | n, .dii _, _, _, ho, _, _, _ => ho.elim
  | n, .obj _ _, _, _, ho, _, _, _ => ho.elim
theorem rkA_of (I : Inv X pins σ H s) : ∀ (n : Nat) (ds : List Dt) {vs : List V} {us : List Value}, okEA n ds → (∀ t ∈ PyData.shownAll (pyA ds), t.length ≤ sizeLine) → DnA X.K H ds vs → Vals vs us →
    (∃ as, ReadsAll s.heap us (pyA ds) as) ∧ ∃ bs, ReadAtMost s.heap (PyData.depthAll (pyA ds)) bs ∧ ReprAllK X.prog X.w bs s.heap (PyData.depthAll (pyA ds)) us (PyData.shownAll (pyA ds))
  | n, [], _, _, _, _, h, r => by
    cases (show _ = [] from h)
    cases r
    exact ⟨⟨_, ReadsAll.nil⟩, [], (fun _ z => nomatch z), .nil⟩
  | n, d :: ds, _, _, ho, hz, h, r => by
    obtain ⟨v, vs, rfl, h1, h2⟩ := h
    cases r with
    | cons r1 r2 =>
      obtain ⟨⟨as1, q1⟩, b1, hb1, k1⟩ := rk_of I n d ho.1 (hz _ (by show _ ∈ d.py.shown :: _; exact List.mem_cons_self ..)) h1 r1
      obtain ⟨⟨as2, q2⟩, b2, hb2, k2⟩ := rkA_of I n ds ho.2 (fun t ht => hz t (by show _ ∈ d.py.shown :: _; exact List.mem_cons_of_mem _ ht)) h2 r2
      refine ⟨⟨_, ReadsAll.cons q1 q2⟩, b1 ++ b2, ?_, ?_⟩
      · intro b hm
        show ∃ d' as, Reads s.heap (.ref b) d' as ∧ d'.depth ≤ max d.py.depth (PyData.depthAll (pyA ds))
        rcases List.mem_append.mp hm with hm | hm
        · obtain ⟨d', as', r', hd'⟩ := hb1 b hm
          exact ⟨d', as', r', Nat.le_trans hd' (Nat.le_max_left _ _)⟩
        · obtain ⟨d', as', r', hd'⟩ := hb2 b hm
          exact ⟨d', as', r', Nat.le_trans hd' (Nat.le_max_right _ _)⟩
      · show ReprAllK X.prog X.w (b1 ++ b2) s.heap (max d.py.depth (PyData.depthAll (pyA ds))) _ (d.py.shown :: PyData.shownAll (pyA ds))
        exact .cons ((k1.more fun b hb => List.mem_append_left _ hb).level_le (Nat.le_max_left _ _)) (k2.more_le (fun b hb => List.mem_append_right _ hb) (Nat.le_max_right _ _))
end
/-- what is shown by a built-in __repr__ of its own -/
theorem showsBy_E (I : Inv X pins σ H s) (n : Nat) (d : Dt) {a : Addr} {v : V} (ho : d.okE n) (hz : d.py.shown.length ≤ sizeLine) (h : Dn X.K H d v) (r : RelV v (.ref a)) : ∃ T idr, ShowsBy X.prog X.w s.heap a d.py T idr := by
  cases d with
  | non => cases (show v = _ from h); cases r
  | bl b => cases (show v = _ from h); cases r
  | int i =>
    cases (show v = _ from h)
    obtain ⟨t, z⟩ := r
    cases z
  | str x =>
    cases (show v = _ from h)
    obtain ⟨t, z⟩ := r
    cases z
  | dii _ => exact ho.elim
  | obj _ _ => exact ho.elim
  | lst ds =>
    obtain ⟨b, xs, rfl, h1, h2⟩ := h
    cases r
    obtain ⟨its, rv, ⟨o, m, ho1, hc, _, hd⟩, _⟩ := I.list (SqL.of (K := X.K) h1)
    have hz' : (listText (PyData.shownAll (pyA ds))).length ≤ sizeLine := hz
    obtain ⟨⟨as, hr⟩, bs, hb, hk⟩ := rkA_of I (n - 1) ds ho.2 (fun t ht => Nat.le_trans (listText_mem_le ht) hz') h2 rv
    have rd : Reads s.heap (.ref a) (.list (pyA ds)) (a :: as) := Reads.list ho1 hc hd (by simpa using hr)
    have hna : a ∉ bs := not_mem_of_deeper rd (by simp only [PyData.depth]; omega) hb
    refine ⟨"list", "list.__repr__", F.slot_list_repr.toG, F.slot_list_str, F.slot_list_format, fun s hk0 => ⟨o, hk0 _ _ ho1, hc⟩, fun A E s Q hg hu hk0 hQ => ?_⟩
    have hu : A.units + (PyData.list (pyA ds)).depth < cLine := hu
    simp only [PyData.depth] at hu
    cases its with
    | nil =>
      have e0 : PyData.shownAll (pyA ds) = [] := List.length_eq_zero_iff.mp (by simpa using hk.length_eq)
      have hQ : ∀ h' u tk, (∀ b o, s.heap.get? b = some o → h'.get? b = some o) → Q (.str (listText (PyData.shownAll (pyA ds))) u) { s with heap := h', toks := tk } := hQ
      rw [e0, listText_nil] at hQ
      exact call_list_repr_empty ⟨o, hk0 _ _ ho1, hc⟩ (hk0 _ _ ho1) hd (hQ s.heap _ _ fun _ _ e => e)
    | cons x l => exact call_list_reprK ho1 hc hd hna (by simpa using hk.length_eq) (fun i y e => hk.item i y (by simpa using e)) hg (fun b _ => Clear.nil b) hu hk0 hQ hz'
  | tup ds =>
    obtain ⟨b, xs, rfl, h1, h2⟩ := h
    cases r
    obtain ⟨its, rv, ⟨o, ho1, hc, m, hd⟩, _⟩ := I.tuple h1
    have hz' : (tupleText (PyData.shownAll (pyA ds))).length ≤ sizeLine := hz
    obtain ⟨⟨as, hr⟩, bs, hb, hk⟩ := rkA_of I (n - 1) ds ho.2 (fun t ht => Nat.le_trans (tupleText_mem_le ht) hz') h2 rv
    have rd : Reads s.heap (.ref a) (.tuple (pyA ds)) as := Reads.tuple ho1 hc hd (by simpa using hr)
    have hna : a ∉ bs := not_mem_of_deeper rd (by simp only [PyData.depth]; omega) hb
    refine ⟨"tuple", "tuple.__repr__", F.slot_tuple_repr, F.slot_tuple_str, F.slot_tuple_format, fun s hk0 => ⟨o, hk0 _ _ ho1, hc⟩, fun A E s Q hg hu hk0 hQ => ?_⟩
    have hu : A.units + (PyData.tuple (pyA ds)).depth < cLine := hu
    simp only [PyData.depth] at hu
    exact call_tuple_reprK ho1 hc hd hna (by simpa using hk) hg (fun b _ => Clear.nil b) hu hk0 hQ hz'
  | dic ks =>
    cases ho.2
    obtain ⟨b, kvs, rfl, h1, h2⟩ := h
    cases (show kvs = [] from h2)
    cases r
    obtain ⟨o, m, e1, e2, e3, e4⟩ := dic_here I h1
    refine ⟨"dict", "dict.__repr__", F.slot_dict_repr, F.slot_dict_str, F.slot_dict_format, fun s hk0 => ⟨o, hk0 _ _ e1, e2⟩, fun A E s Q hg hu hk0 hQ => ?_⟩
    have hu : A.units + (0 + 1) < cLine := hu
    exact call_dict_reprK (ps := []) (as := []) e1 e2 e3 e4 (by simp) .nil hg (fun b _ => Clear.nil b) hu hk0 hQ hz
end
def rReprE (K : PySem.W.Frag) : List V → Hp → VK → Prop := fun xs H Q =>
  ∃ v d, xs = [v] ∧ Dn K H d v ∧ Dt.okE 50 d ∧ d.py.shown.length ≤ sizeLine ∧ Q (.str d.py.shown) H
theorem call_reprE' {X : Cx} (gd : X.A.guards = some []) (hu : X.A.units + 64 < cLine) : CallR X (.builtin "repr") (rReprE X.K) := by
  intro pins s σ H xs us Q I r h
  obtain ⟨v, d, rfl, dn, ok, sz, q⟩ := h
  obtain ⟨u, rfl, r1⟩ := vals1 r
  have fin : ∀ h' tk, (∀ b o, s.heap.get? b = some o → h'.get? b = some o) → ∀ t, EP X pins σ Q (.str d.py.shown t) { s with heap := h', toks := tk } :=
    fun h' tk kp t => ⟨.str d.py.shown, H, I.kept kp, ⟨t, rfl⟩, q⟩
  have here : ∀ tk t, EP X pins σ Q (.str d.py.shown t) { s with toks := tk } := fun tk t => fin s.heap tk (fun _ _ z => z) t
  have dp := (showsE 50 d ok).dp
  have ref : ∀ a, u = .ref a → wpAny (model X.prog X.w) X.A (call (.builtin "repr") [u]) (EP X pins σ Q) X.xe s := fun a e => by
    subst e
    obtain ⟨T, idr, S⟩ := showsBy_E I 50 d ok sz dn r1
    exact call_repr_slot (by omega) (S.typeIs s fun _ _ e => e) S.slotRepr (S.call X.A.in1 X.xe s _ gd (by show X.A.units + 1 + d.py.depth < cLine; omega) (fun _ _ e => e) fun h' u tk hk => ⟨_, _, rfl, fin h' tk hk u⟩)
  cases d with
  | non =>
    cases (show v = _ from dn)
    cases (show u = Value.none from r1)
    exact PySem.P.repr_of_none (here _ _)
  | bl b =>
    cases (show v = _ from dn)
    cases (show u = Value.bool b from r1)
    exact PySem.P.repr_of_bool (by
      have := here (s.toks + 1) s.toks
      cases b <;> exact this)
  | int i =>
    cases (show v = _ from dn)
    obtain ⟨t, e⟩ := (show ∃ t, u = Value.int i t from r1)
    subst e
    exact PySem.P.repr_of_int ok (here _ _)
  | str x =>
    cases (show v = _ from dn)
    obtain ⟨t, e⟩ := (show ∃ t, u = Value.str x t from r1)
    subst e
    exact PySem.P.repr_of_str (here _ _) sz
  | lst ds =>
    obtain ⟨a, xs, rfl, _⟩ := id dn
    exact ref a r1
  | tup ds =>
    obtain ⟨a, xs, rfl, _⟩ := id dn
    exact ref a r1
  | dic ds =>
    obtain ⟨a, xs, rfl, _⟩ := id dn
    exact ref a r1
  | dii _ => exact ok.elim
  | obj _ _ => exact ok.elim
theorem call_reprE {X : Cx} {K : PySem.W.Frag} (gd : X.A.guards = some []) (hu : X.A.units + 64 < cLine) (h : X.K = K := by rfl) : CallR X (.builtin "repr") (rReprE K) := h ▸ call_reprE' gd hu
theorem rc_reprE {K : KX} {d : Dt} (h : d.okE 50) (hw : d.wid ≤ 100000) : Rcv K (rReprE K) [d] (· = .str d.py.shown) := fun P H vs Q t dn k => by
  obtain ⟨v, r, rfl, d1, d2⟩ := dn
  cases (show r = [] from d2)
  exact ⟨v, d, rfl, Dn.mono (hid_ex P).n d d1, h, Nat.le_trans (showsE 50 d h).ln (Nat.le_trans hw (by decide)), rv_out k rfl rfl⟩
theorem ed_reprE {K : KX} {S : List Addr} {G : List Sl} {te : TE} {d : Dt} (h : Eg K S G te (· = d)) (hs : d.okE 50) (hw : d.wid ≤ 100000) : Eg K S G (tCB (rReprE K) (tCons te tNil)) (· = .str d.py.shown) := ed_cb (ea_1 h) (rc_reprE hs hw)
end Sb

set_option Elab.async false
set_option linter.all false
set_option maxRecDepth 100000
set_option maxHeartbeats 8000000
set_option autoImplicit false
namespace Sb
open PySem PySem.Spec PyProof.Rows L2 TL
abbrev s__law_odd : Stmt := top 33
abbrev N__law_odd : List Str := ["_law_source_here", "_law_menu", "_law_way", "_law_number"]
abbrev A__law_odd : List Str := ["_law_source_here"]
theorem sc__law_odd : FnScope N__law_odd A__law_odd (defScope s__law_odd) :=
  ⟨rfl, rfl, rfl, by decide +kernel, rfl, by decide +kernel, by decide +kernel⟩
abbrev s__law_sorts : Stmt := top 34
abbrev N__law_sorts : List Str := ["_law_e", "_law_found"]
abbrev A__law_sorts : List Str := ["_law_e"]
theorem sc__law_sorts : FnScope N__law_sorts A__law_sorts (defScope s__law_sorts) :=
  ⟨rfl, rfl, rfl, by decide +kernel, rfl, by decide +kernel, by decide +kernel⟩
abbrev s__law_is_right : Stmt := top 35
abbrev N__law_is_right : List Str := ["_law_e", "_law_at", "_law_odd_here", "_law_is_based", "_law_k"]
abbrev A__law_is_right : List Str := ["_law_e", "_law_at", "_law_odd_here"]
theorem sc__law_is_right : FnScope N__law_is_right A__law_is_right (defScope s__law_is_right) :=
  ⟨rfl, rfl, rfl, by decide +kernel, rfl, by decide +kernel, by decide +kernel⟩
abbrev s__law_placed : Stmt := top 36
abbrev N__law_placed : List Str := ["_law_odd_here", "_law_found"]
abbrev A__law_placed : List Str := ["_law_odd_here"]
theorem sc__law_placed : FnScope N__law_placed A__law_placed (defScope s__law_placed) :=
  ⟨rfl, rfl, rfl, by decide +kernel, rfl, by decide +kernel, by decide +kernel⟩
abbrev s__law_named : Stmt := top 37
abbrev N__law_named : List Str := ["_law_odd_here", "_law_found"]
abbrev A__law_named : List Str := ["_law_odd_here"]
theorem sc__law_named : FnScope N__law_named A__law_named (defScope s__law_named) :=
  ⟨rfl, rfl, rfl, by decide +kernel, rfl, by decide +kernel, by decide +kernel⟩
abbrev s__law_right : Stmt := top 38
abbrev N__law_right : List Str := ["_law_source_here", "_law_turn", "_law_odd_here", "_law_found", "_law_at"]
abbrev A__law_right : List Str := ["_law_source_here"]
theorem sc__law_right : FnScope N__law_right A__law_right (defScope s__law_right) :=
  ⟨rfl, rfl, rfl, by decide +kernel, rfl, by decide +kernel, by decide +kernel⟩
/-! ### the classes -/
/-- an own exception class with its __init__, called by position or by name -/
structure XcV (P : Program) (w : World) (K : KX) (mg : Str → Option Value) (base : Heap) (x : Str) (C : Addr) (f : Str) : Prop where
  T : OexE K C
  no : PySem.W.findIn K (.ref C) f = some none
  ex : ∃ (g : Addr) (fd : FuncData) (ps : List Str), PySem.W.findIn K (.ref C) "__init__" = some (some (.ref g)) ∧ PySem.W.typeIn K (.ref g) = some (.type "function") ∧ FnOk P w K mg base CX0 1 g fd ps (spO K f) ∧ Binds K fd ps [] ∧ (∀ (s : Shared) (u v : Value), K.fr.In s.heap → BindsTo s fd ⟨[u], [(f, v)]⟩ (ps.zip [u, v])) ∧ ps.length = 2
  gl : mg x = some (.ref C)
structure XcN (K : KX) (mg : Str → Option Value) (x : Str) (C : Addr) : Prop where
  ex : ∃ (bmB : List Value) (B newId initId : String), ExcBaseFacts B newId initId bmB ∧ PySem.W.excIn K.fr C bmB newId = true
  kp : PySem.W.keepIn K (.ref C) = true
  gl : mg x = some (.ref C)
theorem pe_exc {X : Cx} {x f : Str} {C : Addr} {k : Nat} {e : Expr} {te : TE} {K : KX} {p pos : Pos} (c : XcV X.prog X.w K X.mg X.base x C f) (eK : X.K = K.fr) (hr : Room (k + 2) X.A) (hg : Gl X x) (he : PE X e te)
    (hdb : (x == ("__debug__" : Str)) = false := by decide) (hs : starEach [e] X.env = (false, eval e X.env) :: starEach [] X.env := by rfl) (hpl : (backTo pos (starEach [] X.env)).any (·.1) = false := by rfl) :
    PE X (.Call (.Name x p) [e] [] pos) (tExV C (spO K f) (tCons te tNil)) := by
  obtain ⟨g, fd, ps, iC, tI, F, b, _⟩ := c.ex
  have T := c.T
  rw [← eK] at F b iC tI T
  have := pe_oexV (p := p) (pos := pos) T iC tI F (hr.mono (by omega)) b (fun _ _ _ _ _ _ _ z => (show False from z).elim) hg c.gl (pa_cons he pa_nil hs) hdb hs hpl
  rw [← eK]
  exact this
theorem pe_excK {X : Cx} {x f : Str} {C : Addr} {k : Nat} {kws : List Keyword} {tk : TA} {K : KX} {p pos : Pos} (c : XcV X.prog X.w K X.mg X.base x C f) (eK : X.K = K.fr) (hr : Room (k + 2) X.A) (hg : Gl X x) (hkw : PK X kws tk)
    (hall : (backToKw pos (keywordEach kws X.env)).all (·.1.isSome) = true := by rfl) (hks : (backToKw pos (keywordEach kws X.env)).filterMap (·.1) = [f] := by rfl) (hdb : (x == ("__debug__" : Str)) = false := by decide)
    (hpl : ((backTo pos (starEach [] X.env)).any (·.1) || (backToKw pos (keywordEach kws X.env)).any (·.1.isNone)) = false := by rfl) :
    PE X (.Call (.Name x p) [] kws pos) (tExV C (fun vs H Q E => vs.length = 2 ∧ spO K f vs H Q E) tk) := by
  obtain ⟨g, fd, ps, iC, tI, F, _, b, hp⟩ := c.ex
  have T := c.T
  rw [← eK] at F b iC tI T
  have := pe_oexVK (p := p) (pos := pos) T iC tI F (hr.mono (by omega)) b hp (fun _ _ _ _ _ _ _ z => (show False from z).elim) hg c.gl hkw hall hks hdb hpl
  rw [← eK]
  exact this
theorem pe_excN {X : Cx} {x : Str} {C : Addr} {K : KX} {p pos : Pos} (c : XcN K X.mg x C) (eK : X.K = K.fr) (hg : Gl X x) (hdb : (x == ("__debug__" : Str)) = false := by decide) :
    PE X (.Call (.Name x p) [] [] pos) (tEx0 C) := by
  obtain ⟨bmB, B, newId, initId, F, q⟩ := c.ex
  have kp := c.kp
  rw [← eK] at q kp
  exact pe_exc0V F q c.gl kp hg hdb
def sGiven : Str := "given"
def sIndex : Str := "index"
def fldV (i : Nat) : Str := if i < 10 ∨ i = 15 then sGiven else sIndex
/-- the i-th exception with d in it -/
def exD (Cs : List Addr) (i : Nat) (d : Dt) : Dt := .obj (Cs.getD i 0) (if i = 17 then [] else [(fldV i, d)])
/-- what isinstance tells of the classes: cv is the i-th of them, or a base class -/
structure KiV (K : KX) (Cs : List Addr) (BV BN NA : Addr) : Prop where
  len : Cs.length = 19
  own : ∀ i, i < 19 → ∀ j, j < 19 → PySem.W.kitOne K.fr (.ref (Cs.getD i 0)) (.ref (Cs.getD j 0)) = some (decide (j = i))
  bv : ∀ i, i < 19 → PySem.W.kitOne K.fr (.ref (Cs.getD i 0)) (.ref BV) = some (decide (i < 15))
  bn : ∀ i, i < 19 → PySem.W.kitOne K.fr (.ref (Cs.getD i 0)) (.ref BN) = some (decide (14 < i) && decide (i < 17))
  na : ∀ i, i < 19 → PySem.W.kitOne K.fr (.ref (Cs.getD i 0)) (.ref NA) = some (decide (i > 16))
  ve : ∀ i, i < 15 → PySem.W.kitOne K.fr (.ref (Cs.getD i 0)) (.type "ValueError") = some true
  le : ∀ i, 15 ≤ i → i < 17 → PySem.W.kitOne K.fr (.ref (Cs.getD i 0)) (.type "LookupError") = some true
  ae : ∀ i, 17 ≤ i → i < 19 → PySem.W.kitOne K.fr (.ref (Cs.getD i 0)) (.type "ArithmeticError") = some true
structure ExIn where
  at_ : Nat
  d : Dt
theorem at_mem {Cs : List Addr} {i : Nat} (hl : Cs.length = 19) (h : i < 19) : Cs.getD i 0 ∈ Cs := by
  rw [List.getD_eq_getElem?_getD, List.getElem?_eq_getElem (by omega)]
  exact List.getElem_mem _
def sortsD (i : Nat) : Dt := .lst ((List.range 19).map fun k => .bl (decide (k = i)))
section
variable {P : Program} {w : World} {K : KX} {mg : Str → Option Value} {base : Heap} {aS aO : Addr} {c0 c1 c2 c3 c4 c5 c6 c7 c8 c9 c10 c11 c12 c13 c14 c15 c16 c17 c18 BV BN NA : Addr}
abbrev sp_sorts (K : KX) (Cs : List Addr) : Sp := spX K (fun a : ExIn => [exD Cs a.at_ a.d]) (fun a => a.at_ < 19) (fun a e => e = sortsD a.at_)
theorem ok__law_sorts {f : Addr} {fd : FuncData} (F : Fun K "_law_sorts" "_law_sorts" s__law_sorts f fd) (B : Bf K mg aS aO) {Cs : List Addr} (hCs : Cs = [c0, c1, c2, c3, c4, c5, c6, c7, c8, c9, c10, c11, c12, c13, c14, c15, c16, c17, c18]) (ki : KiV K Cs BV BN NA) (ex : ∀ C ∈ Cs, ExcC K.fr C)
    (g_InvalidText : ∃ u, mg "InvalidText" = some u ∧ RelV (.ref c0) u) (g_InvalidName : ∃ u, mg "InvalidName" = some u ∧ RelV (.ref c1) u) (g_InvalidNumber : ∃ u, mg "InvalidNumber" = some u ∧ RelV (.ref c2) u) (g_InvalidQuestion : ∃ u, mg "InvalidQuestion" = some u ∧ RelV (.ref c3) u) (g_InvalidCase : ∃ u, mg "InvalidCase" = some u ∧ RelV (.ref c4) u) (g_InvalidChange : ∃ u, mg "InvalidChange" = some u ∧ RelV (.ref c5) u)
    (g_InvalidWish : ∃ u, mg "InvalidWish" = some u ∧ RelV (.ref c6) u) (g_InvalidIndex : ∃ u, mg "InvalidIndex" = some u ∧ RelV (.ref c7) u) (g_NotARule : ∃ u, mg "NotARule" = some u ∧ RelV (.ref c8) u) (g_OtherSeats : ∃ u, mg "OtherSeats" = some u ∧ RelV (.ref c9) u) (g_InvalidSeats : ∃ u, mg "InvalidSeats" = some u ∧ RelV (.ref c10) u) (g_InvalidLines : ∃ u, mg "InvalidLines" = some u ∧ RelV (.ref c11) u)
    (g_InvalidRows : ∃ u, mg "InvalidRows" = some u ∧ RelV (.ref c12) u) (g_InvalidBids : ∃ u, mg "InvalidBids" = some u ∧ RelV (.ref c13) u) (g_InvalidChanges : ∃ u, mg "InvalidChanges" = some u ∧ RelV (.ref c14) u) (g_UnknownName : ∃ u, mg "UnknownName" = some u ∧ RelV (.ref c15) u) (g_InUse : ∃ u, mg "InUse" = some u ∧ RelV (.ref c16) u) (g_NothingToUndo : ∃ u, mg "NothingToUndo" = some u ∧ RelV (.ref c17) u) (g_Broken : ∃ u, mg "Broken" = some u ∧ RelV (.ref c18) u) :
    FnOk P w K mg base CX0 1 f fd A__law_sorts (sp_sorts K Cs) := by
  refine fn_x F sc__law_sorts (fun _ => rfl) fun cdv A outer s H E hr => ⟨_, (pss_cons (ps_set (i := 1) sc__law_sorts.nd rfl (Or.inl rfl) (pe_lst (pa_cons (pe_callB (call_isL (Cs := Cs) ex) (by rfl) B.n_isinstance (by decide +kernel) (pa_cons (pv 0) (pa_cons (pe_gc (by rfl) g_InvalidText) pa_nil))) (pa_cons (pe_callB (call_isL (Cs := Cs) ex) (by rfl) B.n_isinstance (by decide +kernel) (pa_cons (pv 0) (pa_cons (pe_gc (by rfl) g_InvalidName) pa_nil))) (pa_cons (pe_callB (call_isL (Cs := Cs) ex) (by rfl) B.n_isinstance (by decide +kernel) (pa_cons (pv 0) (pa_cons (pe_gc (by rfl) g_InvalidNumber) pa_nil))) pa_nil))))) (pss_cons (ps_set (i := 1) sc__law_sorts.nd rfl (Or.inl rfl) (pe_op (op_addK (K := K)) (pv 1) (pe_lst (pa_cons (pe_callB (call_isL (Cs := Cs) ex) (by rfl) B.n_isinstance (by decide +kernel) (pa_cons (pv 0) (pa_cons (pe_gc (by rfl) g_InvalidQuestion) pa_nil))) (pa_cons (pe_callB (call_isL (Cs := Cs) ex) (by rfl) B.n_isinstance (by decide +kernel) (pa_cons (pv 0) (pa_cons (pe_gc (by rfl) g_InvalidCase) pa_nil))) (pa_cons (pe_callB (call_isL (Cs := Cs) ex) (by rfl) B.n_isinstance (by decide +kernel) (pa_cons (pv 0) (pa_cons (pe_gc (by rfl) g_InvalidChange) pa_nil))) pa_nil)))))) (pss_cons (ps_set (i := 1) sc__law_sorts.nd rfl (Or.inl rfl) (pe_op (op_addK (K := K)) (pv 1) (pe_lst (pa_cons (pe_callB (call_isL (Cs := Cs) ex) (by rfl) B.n_isinstance (by decide +kernel) (pa_cons (pv 0) (pa_cons (pe_gc (by rfl) g_InvalidWish) pa_nil))) (pa_cons (pe_callB (call_isL (Cs := Cs) ex) (by rfl) B.n_isinstance (by decide +kernel) (pa_cons (pv 0) (pa_cons (pe_gc (by rfl) g_InvalidIndex) pa_nil))) (pa_cons (pe_callB (call_isL (Cs := Cs) ex) (by rfl) B.n_isinstance (by decide +kernel) (pa_cons (pv 0) (pa_cons (pe_gc (by rfl) g_NotARule) pa_nil))) pa_nil)))))) (pss_cons (ps_set (i := 1) sc__law_sorts.nd rfl (Or.inl rfl) (pe_op (op_addK (K := K)) (pv 1) (pe_lst (pa_cons (pe_callB (call_isL (Cs := Cs) ex) (by rfl) B.n_isinstance (by decide +kernel) (pa_cons (pv 0) (pa_cons (pe_gc (by rfl) g_OtherSeats) pa_nil))) (pa_cons (pe_callB (call_isL (Cs := Cs) ex) (by rfl) B.n_isinstance (by decide +kernel) (pa_cons (pv 0) (pa_cons (pe_gc (by rfl) g_InvalidSeats) pa_nil))) (pa_cons (pe_callB (call_isL (Cs := Cs) ex) (by rfl) B.n_isinstance (by decide +kernel) (pa_cons (pv 0) (pa_cons (pe_gc (by rfl) g_InvalidLines) pa_nil))) pa_nil)))))) (pss_cons (ps_set (i := 1) sc__law_sorts.nd rfl (Or.inl rfl) (pe_op (op_addK (K := K)) (pv 1) (pe_lst (pa_cons (pe_callB (call_isL (Cs := Cs) ex) (by rfl) B.n_isinstance (by decide +kernel) (pa_cons (pv 0) (pa_cons (pe_gc (by rfl) g_InvalidRows) pa_nil))) (pa_cons (pe_callB (call_isL (Cs := Cs) ex) (by rfl) B.n_isinstance (by decide +kernel) (pa_cons (pv 0) (pa_cons (pe_gc (by rfl) g_InvalidBids) pa_nil))) (pa_cons (pe_callB (call_isL (Cs := Cs) ex) (by rfl) B.n_isinstance (by decide +kernel) (pa_cons (pv 0) (pa_cons (pe_gc (by rfl) g_InvalidChanges) pa_nil))) pa_nil)))))) (pss_cons (ps_set (i := 1) sc__law_sorts.nd rfl (Or.inl rfl) (pe_op (op_addK (K := K)) (pv 1) (pe_lst (pa_cons (pe_callB (call_isL (Cs := Cs) ex) (by rfl) B.n_isinstance (by decide +kernel) (pa_cons (pv 0) (pa_cons (pe_gc (by rfl) g_UnknownName) pa_nil))) (pa_cons (pe_callB (call_isL (Cs := Cs) ex) (by rfl) B.n_isinstance (by decide +kernel) (pa_cons (pv 0) (pa_cons (pe_gc (by rfl) g_InUse) pa_nil))) (pa_cons (pe_callB (call_isL (Cs := Cs) ex) (by rfl) B.n_isinstance (by decide +kernel) (pa_cons (pv 0) (pa_cons (pe_gc (by rfl) g_NothingToUndo) pa_nil))) pa_nil)))))) (pss_one (ps_ret (pe_op (op_addK (K := K)) (pv 1) (pe_lst (pa_cons (pe_callB (call_isL (Cs := Cs) ex) (by rfl) B.n_isinstance (by decide +kernel) (pa_cons (pv 0) (pa_cons (pe_gc (by rfl) g_Broken) pa_nil))) pa_nil))))))))))), fun a ha => ?_⟩
  obtain ⟨i, d⟩ := a
  have ha : i < 19 := ha
  show Run K [] _ [.da (exD Cs i d), .un] _ (fun e => e = sortsD i) _
  have hl := ki.len
  have is : ∀ {G : List Sl} {j : Nat} {c : Addr}, j < 19 → Cs.getD j 0 = c → G[0]? = some (.da (exD Cs i d)) → Eg K [] G (tCB (rIsL K Cs) (tCons (tVar 0) (tCons (tC (.ref c)) tNil))) (· = .bl (decide (j = i))) := fun {G j c} hj e g => ed_isV (at_mem hl ha) (eg_var (i := 0) g) (fun u h => h) (by rw [← e]; exact ki.own i ha j hj)
  subst hCs
  refine q_set (i := 1) (d := .lst [.bl (decide (0 = i)), .bl (decide (1 = i)), .bl (decide (2 = i))]) (ed_lst (ea_3 (is (j := 0) (by decide) rfl rfl) (is (j := 1) (by decide) rfl rfl) (is (j := 2) (by decide) rfl rfl)) (by show 3 ≤ 100000; decide)) ?_
  refine q_set (i := 1) (d := .lst ([.bl (decide (0 = i)), .bl (decide (1 = i)), .bl (decide (2 = i))] ++ [.bl (decide (3 = i)), .bl (decide (4 = i)), .bl (decide (5 = i))])) (ed_addL (eg_var (i := 1) rfl) (ed_lst (ea_3 (is (j := 3) (by decide) rfl rfl) (is (j := 4) (by decide) rfl rfl) (is (j := 5) (by decide) rfl rfl)) (by show 3 ≤ 100000; decide)) (by show 3 + 3 ≤ 100000; decide)) ?_
  refine q_set (i := 1) (d := .lst (([.bl (decide (0 = i)), .bl (decide (1 = i)), .bl (decide (2 = i))] ++ [.bl (decide (3 = i)), .bl (decide (4 = i)), .bl (decide (5 = i))]) ++ [.bl (decide (6 = i)), .bl (decide (7 = i)), .bl (decide (8 = i))])) (ed_addL (eg_var (i := 1) rfl) (ed_lst (ea_3 (is (j := 6) (by decide) rfl rfl) (is (j := 7) (by decide) rfl rfl) (is (j := 8) (by decide) rfl rfl)) (by show 3 ≤ 100000; decide)) (by show 6 + 3 ≤ 100000; decide)) ?_
  refine q_set (i := 1) (d := .lst ((([.bl (decide (0 = i)), .bl (decide (1 = i)), .bl (decide (2 = i))] ++ [.bl (decide (3 = i)), .bl (decide (4 = i)), .bl (decide (5 = i))]) ++ [.bl (decide (6 = i)), .bl (decide (7 = i)), .bl (decide (8 = i))]) ++ [.bl (decide (9 = i)), .bl (decide (10 = i)), .bl (decide (11 = i))])) (ed_addL (eg_var (i := 1) rfl) (ed_lst (ea_3 (is (j := 9) (by decide) rfl rfl) (is (j := 10) (by decide) rfl rfl) (is (j := 11) (by decide) rfl rfl)) (by show 3 ≤ 100000; decide)) (by show 9 + 3 ≤ 100000; decide)) ?_
  refine q_set (i := 1) (d := .lst (((([.bl (decide (0 = i)), .bl (decide (1 = i)), .bl (decide (2 = i))] ++ [.bl (decide (3 = i)), .bl (decide (4 = i)), .bl (decide (5 = i))]) ++ [.bl (decide (6 = i)), .bl (decide (7 = i)), .bl (decide (8 = i))]) ++ [.bl (decide (9 = i)), .bl (decide (10 = i)), .bl (decide (11 = i))]) ++ [.bl (decide (12 = i)), .bl (decide (13 = i)), .bl (decide (14 = i))])) (ed_addL (eg_var (i := 1) rfl) (ed_lst (ea_3 (is (j := 12) (by decide) rfl rfl) (is (j := 13) (by decide) rfl rfl) (is (j := 14) (by decide) rfl rfl)) (by show 3 ≤ 100000; decide)) (by show 12 + 3 ≤ 100000; decide)) ?_
  refine q_set (i := 1) (d := .lst ((((([.bl (decide (0 = i)), .bl (decide (1 = i)), .bl (decide (2 = i))] ++ [.bl (decide (3 = i)), .bl (decide (4 = i)), .bl (decide (5 = i))]) ++ [.bl (decide (6 = i)), .bl (decide (7 = i)), .bl (decide (8 = i))]) ++ [.bl (decide (9 = i)), .bl (decide (10 = i)), .bl (decide (11 = i))]) ++ [.bl (decide (12 = i)), .bl (decide (13 = i)), .bl (decide (14 = i))]) ++ [.bl (decide (15 = i)), .bl (decide (16 = i)), .bl (decide (17 = i))])) (ed_addL (eg_var (i := 1) rfl) (ed_lst (ea_3 (is (j := 15) (by decide) rfl rfl) (is (j := 16) (by decide) rfl rfl) (is (j := 17) (by decide) rfl rfl)) (by show 3 ≤ 100000; decide)) (by show 15 + 3 ≤ 100000; decide)) ?_
  exact run_ret (eg_eq (ed_addL (eg_var (i := 1) rfl) (ed_lst (ea_1 (is (j := 18) (by decide) rfl rfl)) (by show 1 ≤ 100000; decide)) (by show 18 + 1 ≤ 100000; decide)) rfl)
end
end Sb

set_option Elab.async false
set_option linter.all false
set_option maxRecDepth 100000
set_option autoImplicit false
namespace Sb
open PySem PySem.Spec PyProof.Rows L2 TL
open Classical in
theorem ed_lcG {K : KX} {S : List Addr} {G : List Sl} {al : Type} {wi : TI} {te : TE} {i : Nat} {xs : List al} {g h : al → Dt} (hi : G[i]? = some .un) (hw : Wk K S G wi (· = xs.map g)) (hl : xs.length ≤ 10000) (hj : ∀ x ∈ xs, ∀ y ∈ xs, g x = g y → h x = h y)
    (he : ∀ x ∈ xs, Eg K S (G.set i (.da (g x))) te (· = h x)) : Eg K S G (tLc wi (gName i) tYes te [i]) (· = .lst (xs.map h)) := by
  let f : Dt → Dt := fun d => if q : ∃ x, x ∈ xs ∧ g x = d then h q.choose else .non
  have hf : ∀ x ∈ xs, f (g x) = h x := fun x hx => by
    have q : ∃ y, y ∈ xs ∧ g y = g x := ⟨x, hx, rfl⟩
    show (if q : ∃ y, y ∈ xs ∧ g y = g x then h q.choose else .non) = h x
    rw [dif_pos q]
    exact hj _ q.choose_spec.1 _ hx q.choose_spec.2
  refine eg_eq (ed_lcMap (f := f) hi hw (by rw [List.length_map]; exact hl) fun d hd => ?_) ?_
  · obtain ⟨x, hx, rfl⟩ := List.mem_map.mp hd
    exact eg_eq (he x hx) (hf x hx).symm
  · rw [List.map_map]
    exact congrArg Dt.lst (List.map_congr_left fun x hx => hf x hx)
section
variable {K : KX} {S : List Addr} {G : List Sl}
theorem eg_dnew : Eg K S G tDNewK (· = .dic []) := fun B O σ H hh Q k => fun p hp =>
  k _ _ _ rfl (hh.more (new_ex hp)) (hid_new hp) ⟨p, [], rfl, by rw [hid_out (hh.trk.out hp)]; exact upd_same, rfl⟩
theorem ea_S5 {ta tb tc td te : TE} {a b c d e : Dt} (ha : Eg K S G ta (· = a)) (hb : Eg K S G tb (· = b)) (hc : Eg K S G tc (· = c)) (hd : Eg K S G td (· = d)) (he : Eg K S G te (· = e)) : Ea K S G (tCons ta (tCons tb (tCons tc (tCons td (tCons te tNil))))) (· = [a, b, c, d, e]) := ea_cons ha (ea_4 hb hc hd he) fun _ _ e1 e2 => by rw [e1, e2]
theorem ed_gtI0 {ta tb : TE} {i j : Int} (ha : Eg K S G ta (· = .int i)) (hb : Eg K S G tb (· = .int j)) : Eg K S G (tOp (rI0 fun i j => .bl (decide (i > j))) ta tb) (· = .bl (decide (i > j))) := ed_op ha hb fun P H v w Q t d1 d2 k => ⟨i, j, d1, d2, rv_out k rfl rfl⟩
end
end Sb

set_option Elab.async false
set_option linter.all false
set_option maxRecDepth 100000
set_option maxHeartbeats 8000000
set_option autoImplicit false
namespace Sb
open PySem PySem.Spec PyProof.Rows L2 TL
/-! ### the errors made -/
def allV (Cs : List Addr) (d : Dt) : List Dt := (List.range 19).map fun i => exD Cs i d
section
variable {P : Program} {w : World} {K : KX} {mg : Str → Option Value} {base : Heap} {aS aO : Addr} {c0 c1 c2 c3 c4 c5 c6 c7 c8 c9 c10 c11 c12 c13 c14 c15 c16 c17 c18 BV BN NA : Addr}
abbrev sp_placed (K : KX) (Cs : List Addr) : Sp := spX K (fun d : Dt => [d]) (fun _ => True) (fun d e => e = .lst (allV Cs d))
theorem ok__law_placed {f : Addr} {fd : FuncData} (F : Fun K "_law_placed" "_law_placed" s__law_placed f fd) (B : Bf K mg aS aO) {Cs : List Addr} (hCs : Cs = [c0, c1, c2, c3, c4, c5, c6, c7, c8, c9, c10, c11, c12, c13, c14, c15, c16, c17, c18])
    (x_InvalidText : XcV P w K mg base "InvalidText" c0 "given") (x_InvalidName : XcV P w K mg base "InvalidName" c1 "given") (x_InvalidNumber : XcV P w K mg base "InvalidNumber" c2 "given") (x_InvalidQuestion : XcV P w K mg base "InvalidQuestion" c3 "given") (x_InvalidCase : XcV P w K mg base "InvalidCase" c4 "given")
    (x_InvalidChange : XcV P w K mg base "InvalidChange" c5 "given") (x_InvalidWish : XcV P w K mg base "InvalidWish" c6 "given") (x_InvalidIndex : XcV P w K mg base "InvalidIndex" c7 "given") (x_NotARule : XcV P w K mg base "NotARule" c8 "given") (x_OtherSeats : XcV P w K mg base "OtherSeats" c9 "given")
    (x_InvalidSeats : XcV P w K mg base "InvalidSeats" c10 "index") (x_InvalidLines : XcV P w K mg base "InvalidLines" c11 "index") (x_InvalidRows : XcV P w K mg base "InvalidRows" c12 "index") (x_InvalidBids : XcV P w K mg base "InvalidBids" c13 "index") (x_InvalidChanges : XcV P w K mg base "InvalidChanges" c14 "index")
    (x_UnknownName : XcV P w K mg base "UnknownName" c15 "given") (x_InUse : XcV P w K mg base "InUse" c16 "index") (x_NothingToUndo : XcN K mg "NothingToUndo" c17) (x_Broken : XcV P w K mg base "Broken" c18 "index") : FnOk P w K mg base CX0 3 f fd A__law_placed (sp_placed K Cs) := by
  refine fn_x F sc__law_placed (fun _ => rfl) fun cdv A outer s H E hr => ⟨_, (pss_cons (ps_set (i := 1) sc__law_placed.nd rfl (Or.inl rfl) (pe_lst (pa_cons (pe_exc x_InvalidText rfl hr (by rfl) (pv 0)) (pa_cons (pe_exc x_InvalidName rfl hr (by rfl) (pv 0)) (pa_cons (pe_exc x_InvalidNumber rfl hr (by rfl) (pv 0)) (pa_cons (pe_exc x_InvalidQuestion rfl hr (by rfl) (pv 0)) (pa_cons (pe_exc x_InvalidCase rfl hr (by rfl) (pv 0)) pa_nil))))))) (pss_cons (ps_set (i := 1) sc__law_placed.nd rfl (Or.inl rfl) (pe_op (op_addK (K := K)) (pv 1) (pe_lst (pa_cons (pe_exc x_InvalidChange rfl hr (by rfl) (pv 0)) (pa_cons (pe_exc x_InvalidWish rfl hr (by rfl) (pv 0)) (pa_cons (pe_exc x_InvalidIndex rfl hr (by rfl) (pv 0)) (pa_cons (pe_exc x_NotARule rfl hr (by rfl) (pv 0)) (pa_cons (pe_exc x_OtherSeats rfl hr (by rfl) (pv 0)) pa_nil)))))))) (pss_cons (ps_set (i := 1) sc__law_placed.nd rfl (Or.inl rfl) (pe_op (op_addK (K := K)) (pv 1) (pe_lst (pa_cons (pe_exc x_InvalidSeats rfl hr (by rfl) (pv 0)) (pa_cons (pe_exc x_InvalidLines rfl hr (by rfl) (pv 0)) (pa_cons (pe_exc x_InvalidRows rfl hr (by rfl) (pv 0)) (pa_cons (pe_exc x_InvalidBids rfl hr (by rfl) (pv 0)) (pa_cons (pe_exc x_InvalidChanges rfl hr (by rfl) (pv 0)) pa_nil)))))))) (pss_one (ps_ret (pe_op (op_addK (K := K)) (pv 1) (pe_lst (pa_cons (pe_exc x_UnknownName rfl hr (by rfl) (pv 0)) (pa_cons (pe_exc x_InUse rfl hr (by rfl) (pv 0)) (pa_cons (pe_excN x_NothingToUndo rfl (by rfl)) (pa_cons (pe_exc x_Broken rfl hr (by rfl) (pv 0)) pa_nil))))))))))), fun d _ => ?_⟩
  subst hCs
  have mk : ∀ {x fl : Str} {C : Addr} {G : List Sl}, XcV P w K mg base x C fl → G[0]? = some (.da d) → Eg K [] G (tExV C (spO K fl) (tCons (tVar 0) tNil)) (· = .obj C [(fl, d)]) := fun c g => eg_exV c.T c.no (eg_var (i := 0) g)
  refine q_set (i := 1) (d := .lst [.obj c0 [(sGiven, d)], .obj c1 [(sGiven, d)], .obj c2 [(sGiven, d)], .obj c3 [(sGiven, d)], .obj c4 [(sGiven, d)]]) (ed_lst (ea_S5 (mk x_InvalidText rfl) (mk x_InvalidName rfl) (mk x_InvalidNumber rfl) (mk x_InvalidQuestion rfl) (mk x_InvalidCase rfl)) (by show 5 ≤ 100000; decide)) ?_
  refine q_set (i := 1) (d := .lst ([.obj c0 [(sGiven, d)], .obj c1 [(sGiven, d)], .obj c2 [(sGiven, d)], .obj c3 [(sGiven, d)], .obj c4 [(sGiven, d)]] ++ [.obj c5 [(sGiven, d)], .obj c6 [(sGiven, d)], .obj c7 [(sGiven, d)], .obj c8 [(sGiven, d)], .obj c9 [(sGiven, d)]])) (ed_addL (eg_var (i := 1) rfl) (ed_lst (ea_S5 (mk x_InvalidChange rfl) (mk x_InvalidWish rfl) (mk x_InvalidIndex rfl) (mk x_NotARule rfl) (mk x_OtherSeats rfl)) (by show 5 ≤ 100000; decide)) (by show 5 + 5 ≤ 100000; decide)) ?_
  refine q_set (i := 1) (d := .lst (([.obj c0 [(sGiven, d)], .obj c1 [(sGiven, d)], .obj c2 [(sGiven, d)], .obj c3 [(sGiven, d)], .obj c4 [(sGiven, d)]] ++ [.obj c5 [(sGiven, d)], .obj c6 [(sGiven, d)], .obj c7 [(sGiven, d)], .obj c8 [(sGiven, d)], .obj c9 [(sGiven, d)]]) ++ [.obj c10 [(sIndex, d)], .obj c11 [(sIndex, d)], .obj c12 [(sIndex, d)], .obj c13 [(sIndex, d)], .obj c14 [(sIndex, d)]])) (ed_addL (eg_var (i := 1) rfl) (ed_lst (ea_S5 (mk x_InvalidSeats rfl) (mk x_InvalidLines rfl) (mk x_InvalidRows rfl) (mk x_InvalidBids rfl) (mk x_InvalidChanges rfl)) (by show 5 ≤ 100000; decide)) (by show 10 + 5 ≤ 100000; decide)) ?_
  exact run_ret (eg_eq (ed_addL (eg_var (i := 1) rfl) (ed_lst (ea_4 (mk x_UnknownName rfl) (mk x_InUse rfl) eg_ex0 (mk x_Broken rfl)) (by show 4 ≤ 100000; decide)) (by show 15 + 4 ≤ 100000; decide)) rfl)
theorem ok__law_named {f : Addr} {fd : FuncData} (F : Fun K "_law_named" "_law_named" s__law_named f fd) (B : Bf K mg aS aO) {Cs : List Addr} (hCs : Cs = [c0, c1, c2, c3, c4, c5, c6, c7, c8, c9, c10, c11, c12, c13, c14, c15, c16, c17, c18])
    (x_InvalidText : XcV P w K mg base "InvalidText" c0 "given") (x_InvalidName : XcV P w K mg base "InvalidName" c1 "given") (x_InvalidNumber : XcV P w K mg base "InvalidNumber" c2 "given") (x_InvalidQuestion : XcV P w K mg base "InvalidQuestion" c3 "given") (x_InvalidCase : XcV P w K mg base "InvalidCase" c4 "given")
    (x_InvalidChange : XcV P w K mg base "InvalidChange" c5 "given") (x_InvalidWish : XcV P w K mg base "InvalidWish" c6 "given") (x_InvalidIndex : XcV P w K mg base "InvalidIndex" c7 "given") (x_NotARule : XcV P w K mg base "NotARule" c8 "given") (x_OtherSeats : XcV P w K mg base "OtherSeats" c9 "given")
    (x_InvalidSeats : XcV P w K mg base "InvalidSeats" c10 "index") (x_InvalidLines : XcV P w K mg base "InvalidLines" c11 "index") (x_InvalidRows : XcV P w K mg base "InvalidRows" c12 "index") (x_InvalidBids : XcV P w K mg base "InvalidBids" c13 "index") (x_InvalidChanges : XcV P w K mg base "InvalidChanges" c14 "index")
    (x_UnknownName : XcV P w K mg base "UnknownName" c15 "given") (x_InUse : XcV P w K mg base "InUse" c16 "index") (x_NothingToUndo : XcN K mg "NothingToUndo" c17) (x_Broken : XcV P w K mg base "Broken" c18 "index") : FnOk P w K mg base CX0 3 f fd A__law_named (sp_placed K Cs) := by
  refine fn_x F sc__law_named (fun _ => rfl) fun cdv A outer s H E hr => ⟨_, (pss_cons (ps_set (i := 1) sc__law_named.nd rfl (Or.inl rfl) (pe_lst (pa_cons (pe_excK x_InvalidText rfl hr (by rfl) (pk_cons (pv 0) pk_nil)) (pa_cons (pe_excK x_InvalidName rfl hr (by rfl) (pk_cons (pv 0) pk_nil)) (pa_cons (pe_excK x_InvalidNumber rfl hr (by rfl) (pk_cons (pv 0) pk_nil)) (pa_cons (pe_excK x_InvalidQuestion rfl hr (by rfl) (pk_cons (pv 0) pk_nil)) pa_nil)))))) (pss_cons (ps_set (i := 1) sc__law_named.nd rfl (Or.inl rfl) (pe_op (op_addK (K := K)) (pv 1) (pe_lst (pa_cons (pe_excK x_InvalidCase rfl hr (by rfl) (pk_cons (pv 0) pk_nil)) (pa_cons (pe_excK x_InvalidChange rfl hr (by rfl) (pk_cons (pv 0) pk_nil)) (pa_cons (pe_excK x_InvalidWish rfl hr (by rfl) (pk_cons (pv 0) pk_nil)) (pa_cons (pe_excK x_InvalidIndex rfl hr (by rfl) (pk_cons (pv 0) pk_nil)) pa_nil))))))) (pss_cons (ps_set (i := 1) sc__law_named.nd rfl (Or.inl rfl) (pe_op (op_addK (K := K)) (pv 1) (pe_lst (pa_cons (pe_excK x_NotARule rfl hr (by rfl) (pk_cons (pv 0) pk_nil)) (pa_cons (pe_excK x_OtherSeats rfl hr (by rfl) (pk_cons (pv 0) pk_nil)) (pa_cons (pe_excK x_InvalidSeats rfl hr (by rfl) (pk_cons (pv 0) pk_nil)) (pa_cons (pe_excK x_InvalidLines rfl hr (by rfl) (pk_cons (pv 0) pk_nil)) pa_nil))))))) (pss_cons (ps_set (i := 1) sc__law_named.nd rfl (Or.inl rfl) (pe_op (op_addK (K := K)) (pv 1) (pe_lst (pa_cons (pe_excK x_InvalidRows rfl hr (by rfl) (pk_cons (pv 0) pk_nil)) (pa_cons (pe_excK x_InvalidBids rfl hr (by rfl) (pk_cons (pv 0) pk_nil)) (pa_cons (pe_excK x_InvalidChanges rfl hr (by rfl) (pk_cons (pv 0) pk_nil)) (pa_cons (pe_excK x_UnknownName rfl hr (by rfl) (pk_cons (pv 0) pk_nil)) pa_nil))))))) (pss_one (ps_ret (pe_op (op_addK (K := K)) (pv 1) (pe_lst (pa_cons (pe_excK x_InUse rfl hr (by rfl) (pk_cons (pv 0) pk_nil)) (pa_cons (pe_excN x_NothingToUndo rfl (by rfl)) (pa_cons (pe_excK x_Broken rfl hr (by rfl) (pk_cons (pv 0) pk_nil)) pa_nil))))))))))), fun d _ => ?_⟩
  subst hCs
  have mk : ∀ {x fl : Str} {C : Addr} {G : List Sl}, XcV P w K mg base x C fl → G[0]? = some (.da d) → Eg K [] G (tExV C (fun vs H Q E => vs.length = 2 ∧ spO K fl vs H Q E) (tCons (tVar 0) tNil)) (· = .obj C [(fl, d)]) := fun c g => eg_exVK c.T c.no (eg_var (i := 0) g)
  refine q_set (i := 1) (d := .lst [.obj c0 [(sGiven, d)], .obj c1 [(sGiven, d)], .obj c2 [(sGiven, d)], .obj c3 [(sGiven, d)]]) (ed_lst (ea_4 (mk x_InvalidText rfl) (mk x_InvalidName rfl) (mk x_InvalidNumber rfl) (mk x_InvalidQuestion rfl)) (by show 4 ≤ 100000; decide)) ?_
  refine q_set (i := 1) (d := .lst ([.obj c0 [(sGiven, d)], .obj c1 [(sGiven, d)], .obj c2 [(sGiven, d)], .obj c3 [(sGiven, d)]] ++ [.obj c4 [(sGiven, d)], .obj c5 [(sGiven, d)], .obj c6 [(sGiven, d)], .obj c7 [(sGiven, d)]])) (ed_addL (eg_var (i := 1) rfl) (ed_lst (ea_4 (mk x_InvalidCase rfl) (mk x_InvalidChange rfl) (mk x_InvalidWish rfl) (mk x_InvalidIndex rfl)) (by show 4 ≤ 100000; decide)) (by show 4 + 4 ≤ 100000; decide)) ?_
  refine q_set (i := 1) (d := .lst (([.obj c0 [(sGiven, d)], .obj c1 [(sGiven, d)], .obj c2 [(sGiven, d)], .obj c3 [(sGiven, d)]] ++ [.obj c4 [(sGiven, d)], .obj c5 [(sGiven, d)], .obj c6 [(sGiven, d)], .obj c7 [(sGiven, d)]]) ++ [.obj c8 [(sGiven, d)], .obj c9 [(sGiven, d)], .obj c10 [(sIndex, d)], .obj c11 [(sIndex, d)]])) (ed_addL (eg_var (i := 1) rfl) (ed_lst (ea_4 (mk x_NotARule rfl) (mk x_OtherSeats rfl) (mk x_InvalidSeats rfl) (mk x_InvalidLines rfl)) (by show 4 ≤ 100000; decide)) (by show 8 + 4 ≤ 100000; decide)) ?_
  refine q_set (i := 1) (d := .lst ((([.obj c0 [(sGiven, d)], .obj c1 [(sGiven, d)], .obj c2 [(sGiven, d)], .obj c3 [(sGiven, d)]] ++ [.obj c4 [(sGiven, d)], .obj c5 [(sGiven, d)], .obj c6 [(sGiven, d)], .obj c7 [(sGiven, d)]]) ++ [.obj c8 [(sGiven, d)], .obj c9 [(sGiven, d)], .obj c10 [(sIndex, d)], .obj c11 [(sIndex, d)]]) ++ [.obj c12 [(sIndex, d)], .obj c13 [(sIndex, d)], .obj c14 [(sIndex, d)], .obj c15 [(sGiven, d)]])) (ed_addL (eg_var (i := 1) rfl) (ed_lst (ea_4 (mk x_InvalidRows rfl) (mk x_InvalidBids rfl) (mk x_InvalidChanges rfl) (mk x_UnknownName rfl)) (by show 4 ≤ 100000; decide)) (by show 12 + 4 ≤ 100000; decide)) ?_
  exact run_ret (eg_eq (ed_addL (eg_var (i := 1) rfl) (ed_lst (ea_3 (mk x_InUse rfl) eg_ex0 (mk x_Broken rfl)) (by show 3 ≤ 100000; decide)) (by show 16 + 3 ≤ 100000; decide)) rfl)
/-! ### whether an error is right -/
structure IrIn where
  i : Nat
  d : Dt
structure IrIn.ok (a : IrIn) : Prop where
  i : a.i < 19
  s : a.d.okE 50
  w : a.d.wid ≤ 100000
theorem sorts_eq : ∀ i : _root_.Fin 19, PyData.eqv (sortsD i.val).py (sortsD i.val).py = true := by decide +kernel
theorem sorts_ok : ∀ i : _root_.Fin 19, (sortsD i.val).plain = true ∧ SeqAt.shaped (sortsD i.val).py = true := by decide +kernel
def baseD (i : Nat) : Dt := .lst [.bl (decide (i < 15)), .bl (decide (14 < i) && decide (i < 17)), .bl (decide (i > 16))]
theorem base_eq : ∀ i : _root_.Fin 19, PyData.eqv (baseD i.val).py (baseD i.val).py = true := by decide +kernel
theorem base_ok : ∀ i : _root_.Fin 19, (baseD i.val).plain = true ∧ SeqAt.shaped (baseD i.val).py = true := by decide +kernel
theorem ed_chainLt {S : List Addr} {G : List Sl} {ta tb tc : TE} {i j l : Int} (ha : Eg K S G ta (· = .int i)) (hb : Eg K S G tb (· = .int j)) (hc : Eg K S G tc (· = .int l)) :
    Eg K S G (tChain (rI0 fun i j => .bl (decide (i < j))) (rI0 fun i j => .bl (decide (i < j))) ta tb tc) (· = .bl (decide (i < j) && decide (j < l))) := fun B O σ H hh Q k =>
  ha B O σ H hh _ fun v H1 d hd h1 g1 d1 => hb B O σ H1 h1 _ fun w H2 e he h2 g2 d2 => by
    subst hd he
    refine ⟨i, j, d1, d2, decide (i < j), rfl, ?_⟩
    cases hq : decide (i < j) with
    | false => exact iteF (k _ _ _ rfl h2 (g1.trans g2) (by show V.bl false = V.bl (_ && _); rw [hq]; rfl))
    | true =>
      refine iteT (hc B O σ H2 h2 _ fun u H3 f hf h3 g3 d3 => ?_)
      subst hf
      exact ⟨j, l, d2, d3, k _ _ _ rfl h3 ((g1.trans g2).trans g3) (by show V.bl _ = V.bl (_ && _); rw [hq]; rfl)⟩
abbrev sp_isright (K : KX) (Cs : List Addr) : Sp := spX K (fun a : IrIn => [exD Cs a.i a.d, .int (a.i : Int), a.d]) IrIn.ok (fun _ e => e = .bl true)
theorem ok__law_is_right {f : Addr} {fd : FuncData} (F : Fun K "_law_is_right" "_law_is_right" s__law_is_right f fd) (B : Bf K mg aS aO) {Cs : List Addr} (ki : KiV K Cs BV BN NA) (ex : ∀ C ∈ Cs, ExcC K.fr C) (xa_given : ∀ C ∈ Cs, XfC K.fr C ∧ PySem.W.findIn K.fr (.ref C) sGiven = some none) (xa_index : ∀ C ∈ Cs, XfC K.fr C ∧ PySem.W.findIn K.fr (.ref C) sIndex = some none)
    (g_BadValue : ∃ u, mg "BadValue" = some u ∧ RelV (.ref BV) u) (g_BadName : ∃ u, mg "BadName" = some u ∧ RelV (.ref BN) u) (g_NoAnswer : ∃ u, mg "NoAnswer" = some u ∧ RelV (.ref NA) u) (c__law_sorts : Cal P w K mg base 1 "_law_sorts" (sp_sorts K Cs)) : FnG P w K mg base 2 f fd A__law_is_right (sp_isright K Cs) := by
  refine fnG_x F sc__law_is_right (fun _ => rfl) fun cdv A outer s H E gd hr => ⟨_, (pss_cons (ps_if (pt_cmpR (op_neK (K := K) hr.units) (pe_c c__law_sorts hr (by decide) (by rfl) (pa_cons (pv 0) pa_nil)) (pe_lc (own := [("_law_k", 4)]) (g := gName 4) (by rfl) sc__law_is_right.nd (pi_range1 rfl B.n_range (pa_cons pe_int pa_nil)) (blkOk_by (own := [("_law_k", 4)]) (N := N__law_is_right) (sc := defScope s__law_is_right) (by decide +kernel)) (fun _ _ _ _ _ => (pg_name (i := 4) sc__law_is_right.nd rfl (Or.inl rfl))) (fun _ _ _ _ _ => pts_nil) (fun _ _ _ _ _ => (pe_cmpR (op_eqK (K := K) hr.units) (pv 4) (pv 1) (nomark _)))) (nomark _)) (pss_one (ps_ret pe_bl)) pss_nil) (pss_cons (ps_if (pt_cmpR (op_neK (K := K) hr.units) (pe_lst (pa_cons (pe_callB (call_isL (Cs := Cs) ex) (by rfl) B.n_isinstance (by decide +kernel) (pa_cons (pv 0) (pa_cons (pe_gc (by rfl) g_BadValue) pa_nil))) (pa_cons (pe_callB (call_isL (Cs := Cs) ex) (by rfl) B.n_isinstance (by decide +kernel) (pa_cons (pv 0) (pa_cons (pe_gc (by rfl) g_BadName) pa_nil))) (pa_cons (pe_callB (call_isL (Cs := Cs) ex) (by rfl) B.n_isinstance (by decide +kernel) (pa_cons (pv 0) (pa_cons (pe_gc (by rfl) g_NoAnswer) pa_nil))) pa_nil)))) (pe_lst (pa_cons (pe_cmpR op_lt (pv 1) pe_int (nomark _)) (pa_cons (pe_chain op_lt op_lt pe_int (pv 1) pe_int) (pa_cons (pe_cmpR op_gt (pv 1) pe_int (nomark _)) pa_nil)))) (nomark _)) (pss_one (ps_ret pe_bl)) pss_nil) (pss_cons (ps_if (pt_cmpR op_lt (pv 1) pe_int (nomark _)) (pss_one (ps_set (i := 3) sc__law_is_right.nd rfl (Or.inl rfl) (pe_callB (call_isL (Cs := Cs) ex) (by rfl) B.n_isinstance (by decide +kernel) (pa_cons (pv 0) (pa_cons (pe_bltn (v := .ty "ValueError") (by rfl) B.n_ValueError (by decide +kernel) rfl) pa_nil))))) (pss_one (ps_set (i := 3) sc__law_is_right.nd rfl (Or.inl rfl) (pe_ifExp (pt_cmpR op_lt (pv 1) pe_int (nomark _)) (pe_callB (call_isL (Cs := Cs) ex) (by rfl) B.n_isinstance (by decide +kernel) (pa_cons (pv 0) (pa_cons (pe_bltn (v := .ty "LookupError") (by rfl) B.n_LookupError (by decide +kernel) rfl) pa_nil))) (pe_callB (call_isL (Cs := Cs) ex) (by rfl) B.n_isinstance (by decide +kernel) (pa_cons (pv 0) (pa_cons (pe_bltn (v := .ty "ArithmeticError") (by rfl) B.n_ArithmeticError (by decide +kernel) rfl) pa_nil))))))) (pss_cons (ps_if ((pw_or (pt_not (pt_truth (pv 3) (by intro _; rfl))) (pw_or1 (pt_cmpR (op_eqK (K := K) hr.units) (pv 1) pe_int (nomark _))))).pt (pss_one (ps_ret (pv 3))) pss_nil) (pss_one (ps_ret (pe_cmpR (op_eqK (K := K) hr.units) (pe_callB (call_reprE (K := K) gd hr.units) (by rfl) B.n_repr (by decide +kernel) (pa_cons (pe_ifExp ((pw_or (pt_cmpR op_lt (pv 1) pe_int (nomark _)) (pw_or1 (pt_cmpR (op_eqK (K := K) hr.units) (pv 1) pe_int (nomark _))))).pt (pe_xfL xa_given (pv 0)) (pe_xfL xa_index (pv 0))) pa_nil)) (pe_callB (call_reprE (K := K) gd hr.units) (by rfl) B.n_repr (by decide +kernel) (pa_cons (pv 2) pa_nil)) (nomark _)))))))), fun a ha => ?_⟩
  obtain ⟨i, d⟩ := a
  obtain ⟨hi, hs, hw⟩ := ha
  have hi : i < 19 := hi
  have hl := ki.len
  show Run K [] _ [.da (exD Cs i d), .da (.int (i : Int)), .da d, .un, .un] _ (fun e => e = .bl true) _
  have so := sorts_ok ⟨i, hi⟩
  have bo := base_ok ⟨i, hi⟩
  refine q_no (et_eq (et_tst1 (ed_neD (x := sortsD i) (y := sortsD i) (ed_callX (E := E0) (K := K) (rep := fun a : ExIn => [exD Cs a.at_ a.d]) (ok := fun a => a.at_ < 19) (out := fun a : ExIn => sortsD a.at_) ⟨i, d⟩ (ea_1 (eg_var (i := 0) rfl)) hi) (eg_eq (ed_lcG (i := 4) (xs := List.range 19) (g := fun k : Nat => Dt.int (0 + (k : Int))) (h := fun k => Dt.bl (decide (k = i))) rfl (wk_range1 (n := 19) (ea_1 eg_int) (by decide) (by decide)) (by rw [List.length_range]; decide) (fun x _ y _ e => ?_) fun k hk => eg_eq (ed_eqI (eg_var (i := 4) rfl) (eg_var (i := 1) rfl)) ?_) rfl) so.1 so.1 so.2 so.2)) (by rw [sorts_eq ⟨i, hi⟩]; rfl)) ?_
  · have e : (0 + (x : Int)) = 0 + (y : Int) := by injection e
    have : x = y := by omega
    rw [this]
  · congr 1
    by_cases e : k = i
    · rw [decide_eq_true e, decide_eq_true (by omega)]
    · rw [decide_eq_false e, decide_eq_false (by omega)]
  have is : ∀ {G : List Sl} {c : V} {cv : Value} {b : Bool}, (∀ u, RelV c u → u = cv) → PySem.W.kitOne K.fr (.ref (Cs.getD i 0)) cv = some b → G[0]? = some (.da (exD Cs i d)) → Eg K [] G (tCB (rIsL K Cs) (tCons (tVar 0) (tCons (tC c) tNil))) (· = .bl b) := fun {G c cv b} h e g => ed_isV (at_mem hl hi) (eg_var (i := 0) g) h e
  refine q_no (et_eq (et_tst1 (ed_neD (x := baseD i) (y := baseD i) (ed_lst (ea_3 (is (fun u h => h) (ki.bv i hi) rfl) (is (fun u h => h) (ki.bn i hi) rfl) (is (fun u h => h) (ki.na i hi) rfl)) (by show 3 ≤ 100000; decide)) (eg_eq (ed_lst (ea_3 (ed_lt (eg_var (i := 1) rfl) eg_int) (ed_chainLt eg_int (eg_var (i := 1) rfl) eg_int) (ed_gtI0 (eg_var (i := 1) rfl) eg_int)) (by show 3 ≤ 100000; decide)) ?_) bo.1 bo.1 bo.2 bo.2)) (by rw [base_eq ⟨i, hi⟩]; rfl)) ?_
  · unfold baseD
    have e1 : decide ((i : Int) < 15) = decide (i < 15) := by by_cases h : i < 15 <;> simp [h] <;> omega
    have e2 : decide ((14 : Int) < (i : Int)) = decide (14 < i) := by by_cases h : 14 < i <;> simp [h] <;> omega
    have e3 : decide ((i : Int) < 17) = decide (i < 17) := by by_cases h : i < 17 <;> simp [h] <;> omega
    have e4 : decide ((i : Int) > 16) = decide (i > 16) := by by_cases h : i > 16 <;> simp [h] <;> omega
    rw [e1, e2, e3, e4]
  refine run_seq (N1 := (· = [.da (exD Cs i d), .da (.int (i : Int)), .da d, .da (.bl true), .un])) (run_if (p := (· = decide ((i : Int) < 15))) (et_tst1 (ed_lt (eg_var (i := 1) rfl) eg_int)) (fun z => ?_) fun z => ?_) fun G1 hG => ?_
  · have z := of_decide_eq_true z.symm
    exact run_set (i := 3) (p := (· = .bl true)) (is (c := .ty "ValueError") (cv := .type "ValueError") (fun u h => h) (ki.ve i (by omega)) rfl) rfl rfl fun d e => by rw [e]; rfl
  · have z := of_decide_eq_false z.symm
    refine run_set (i := 3) (p := (· = .bl true)) (eg_if (p := (· = decide ((i : Int) < 17))) (et_tst1 (ed_lt (eg_var (i := 1) rfl) eg_int)) (fun y => ?_) fun y => ?_) rfl rfl fun d e => by rw [e]; rfl
    · have y := of_decide_eq_true y.symm
      exact is (c := .ty "LookupError") (cv := .type "LookupError") (fun u h => h) (ki.le i (by omega) (by omega)) rfl
    · have y := of_decide_eq_false y.symm
      exact is (c := .ty "ArithmeticError") (cv := .type "ArithmeticError") (fun u h => h) (ki.ae i (by omega) hi) rfl
  · subst hG
    by_cases h17 : i = 17
    · exact q_yes (et_eq (et_or1 (a := false) (b := true) (et_not1 (a := true) (et_tru (d := .bl true) (eg_var (i := 3) rfl) rfl)) fun _ => et_eq (et_tst1 (ed_eqI (eg_var (i := 1) rfl) eg_int)) (decide_eq_true (by omega))) rfl) (run_ret (eg_var (i := 3) rfl))
    · refine q_no (et_eq (et_or1 (a := false) (b := false) (et_not1 (a := true) (et_tru (d := .bl true) (eg_var (i := 3) rfl) rfl)) fun _ => et_eq (et_tst1 (ed_eqI (eg_var (i := 1) rfl) eg_int)) (decide_eq_false (by omega))) rfl) ?_
      have e0 : exD Cs i d = .obj (Cs.getD i 0) [(fldV i, d)] := by unfold exD; rw [if_neg h17]
      refine run_ret (eg_eq (ed_eqS (i := d.py.shown) (j := d.py.shown) (ed_reprE (eg_if (p := (· = (decide (i < 10) || decide (i = 15)))) (et_or1 (a := decide (i < 10)) (b := decide (i = 15)) (et_eq (et_tst1 (ed_lt (eg_var (i := 1) rfl) eg_int)) ?_) fun _ => et_eq (et_tst1 (ed_eqI (eg_var (i := 1) rfl) eg_int)) ?_) (fun z => ?_) fun z => ?_) hs hw) (ed_reprE (eg_var (i := 2) rfl) hs hw)) (by rw [decide_eq_true rfl]))
      · by_cases h : i < 10 <;> simp [h] <;> omega
      · by_cases h : i = 15 <;> simp [h] <;> omega
      · have e1 : fldV i = sGiven := by
          unfold fldV
          rw [if_pos]
          rcases Bool.or_eq_true_iff.mp z.symm with y | y
          · exact .inl (of_decide_eq_true y)
          · exact .inr (of_decide_eq_true y)
        rw [e1] at e0
        exact ed_xfV (at_mem hl hi) (eg_eq (eg_var (i := 0) rfl) e0)
      · have e1 : fldV i = sIndex := by
          unfold fldV
          rw [if_neg]
          rintro (y | y)
          · rw [decide_eq_true y] at z; cases z
          · rw [decide_eq_true y, Bool.or_true] at z; cases z
        rw [e1] at e0
        exact ed_xfV (at_mem hl hi) (eg_eq (eg_var (i := 0) rfl) e0)
end
end Sb

set_option Elab.async false
set_option linter.all false
set_option maxRecDepth 100000
set_option maxHeartbeats 8000000
set_option autoImplicit false
namespace Sb
open PySem PySem.Spec PyProof.Rows L2 TL
/-! ### things of any kind -/
structure OddV (d : Dt) : Prop where
  s : ∀ n, 3 ≤ n → d.okE n
  w : d.wid ≤ 1000
theorem log2_v {i : Int} (h1 : i.natAbs < 10 ^ 40) : i.natAbs.log2 < 1920 := by
  by_cases n0 : i.natAbs = 0
  · rw [n0]; decide
  · have h1 : Nat.log2 i.natAbs < 134 := (Nat.log2_lt n0).mpr (Nat.lt_of_lt_of_le h1 (by decide))
    omega
theorem wid_v {i : Int} (h0 : -5 ≤ i) (h1 : i < 10 ^ 40) : (Dt.int i).wid ≤ 100 := by
  by_cases hp : 0 ≤ i
  · obtain ⟨n, rfl⟩ : ∃ n : Nat, i = (n : Int) := ⟨i.toNat, by omega⟩
    show (num n).length ≤ 100
    rw [len_cs, cs_num]
    exact Nat.le_trans (numL_len (k := 40) (by decide) (by omega)) (by decide)
  · have h : i = -1 ∨ i = -2 ∨ i = -3 ∨ i = -4 ∨ i = -5 := by omega
    rcases h with h | h | h | h | h <;> (subst h; decide +kernel)
theorem int_v {i : Int} (h0 : -5 ≤ i) (h1 : i < 10 ^ 40) : OddV (.int i) := ⟨fun n _ => log2_v (by omega), Nat.le_trans (wid_v h0 h1) (by decide)⟩
theorem allC {p : Dt → Prop} {x : Dt} {xs : List Dt} (h : p x) (hs : ∀ d ∈ xs, p d) : ∀ d ∈ x :: xs, p d := fun d hd => by
  rcases List.mem_cons.mp hd with z | z
  · rw [z]; exact h
  · exact hs d z
theorem allN {p : Dt → Prop} : ∀ d ∈ ([] : List Dt), p d := fun d hd => by cases hd
section
variable {P : Program} {w : World} {K : KX} {mg : Str → Option Value} {base : Heap} {aS aO : Addr}
theorem ea_K {S : List Addr} {G : List Sl} {te : TE} {tA : TA} {x : Dt} {xs : List Dt} (ha : Eg K S G te (· = x)) (hb : Ea K S G tA (· = xs)) : Ea K S G (tCons te tA) (· = x :: xs) := ea_cons ha hb fun _ _ e1 e2 => by rw [e1, e2]
abbrev sp_odd (K : KX) : Sp := spXS K (fun _ : Unit => []) (fun _ => True) (fun _ e => OddV e)
theorem ok__law_odd {f : Addr} {fd : FuncData} (F : Fun K "_law_odd" "_law_odd" s__law_odd f fd) (B : Bf K mg aS aO) (c__law_take : Cal P w K mg base 1 "_law_take" (sp_take K)) : FnOk P w K mg base CX0 2 f fd A__law_odd (sp_odd K) := by
  refine fn_xs F sc__law_odd (fun _ => rfl) fun cdv A outer s H E hr => ⟨_, (pss_cons (ps_par (i := 2) (j := 3) rfl sc__law_odd.nd rfl rfl (by decide) rfl rfl (pa_cons (pe_c c__law_take hr (by decide) (by rfl) (pa_cons (pv 0) (pa_cons pe_int pa_nil))) (pa_cons (pe_op op_sub (pe_c c__law_take hr (by decide) (by rfl) (pa_cons (pv 0) (pa_cons (pe_op op_pow pe_int pe_int) pa_nil))) pe_int) pa_nil)) rfl) (pss_cons (ps_set (i := 1) sc__law_odd.nd rfl (Or.inl rfl) (pe_lst (pa_cons pe_non (pa_cons pe_bl (pa_cons pe_bl (pa_cons pe_str (pa_cons pe_str (pa_cons (pe_tup pa_nil) (pa_cons (pe_tup (pa_cons pe_str (pa_cons pe_non pa_nil))) (pa_cons (pe_lst (pa_cons pe_int pa_nil)) (pa_cons pe_dnewK (pa_cons (pv 3) (pa_cons (pe_tup (pa_cons (pv 3) pa_nil)) (pa_cons (pe_op (op_addK (K := K)) (pe_op op_pow pe_int pe_int) (pv 3)) (pa_cons (pe_lst (pa_cons (pe_lst pa_nil) pa_nil)) pa_nil))))))))))))))) (pss_one (ps_ret (pe_ix (ix_anyK (K := K)) (pv 1) (pv 2) (fun _ _ => rfl)))))), fun p _ _ => ?_⟩
  show Run K [p] _ [.sr p, .un, .un, .un] _ (fun e => OddV e) _
  refine run_seq (N1 := fun G => ∃ (way : Nat) (i : Int), way < 13 ∧ (-5 ≤ i ∧ i < 1000000000) ∧ G = [.sr p, .un, .da (.int (way : Int)), .da (.int i)]) (run_par (i := 2) (j := 3) (p := fun d => ∃ r : Nat, d = .int (r : Int) ∧ r < 13) (q := fun d => ∃ i : Int, d = .int i ∧ (-5 ≤ i ∧ i < 1000000000)) (ed_take (n := 13) rfl eg_int (by decide) (by decide))
      (eg_op (px := fun d => ∃ r : Nat, d = .int (r : Int) ∧ r < 1000000000) (py := (· = .int 5)) (ed_takeB (n := 1000000000) rfl (eg_eq (ed_pow eg_int eg_int ⟨by decide, by decide, by decide⟩) (congrArg Dt.int (by decide +kernel))) (by decide) (by decide)) eg_int fun x y ⟨r, ex, hr⟩ ey => by
        subst ex ey
        exact fun P H v w Q t d1 d2 k => ⟨_, _, d1, d2, rv_out k ⟨_, rfl, by omega, by omega⟩ rfl⟩) rfl rfl rfl rfl (by decide) fun d e ⟨r, ed, hr⟩ ⟨i, ee, hi⟩ => ⟨r, i, hr, hi, by rw [ed, ee]; rfl⟩) fun G1 hG => ?_
  obtain ⟨way, i, hway, ⟨h0, h1⟩, rfl⟩ := hG
  refine q_set (i := 1) (d := .lst [.non, .bl true, .bl false, .str "", .str "sell", .tup [], .tup [.str "a", .non], .lst [.int 1], .dic [], .int i, .tup [.int i], .int (((1000000000000000000000000000000 : Nat) : Int) + i), .lst [.lst []]])
    (ed_lst (ea_K eg_non (ea_K eg_bl (ea_K eg_bl (ea_K eg_str (ea_K eg_str (ea_K (ed_tup ea_nil (by decide)) (ea_K (ed_tup (ea_2 eg_str eg_non)) (ea_K (ed_lst (ea_1 eg_int) (by show 1 ≤ 100000; decide)) (ea_K eg_dnew (ea_K (eg_var (i := 3) rfl) (ea_K (ed_tup (ea_1 (eg_var (i := 3) rfl))) (ea_K (ed_addI (eg_eq (ed_pow eg_int eg_int ⟨by decide, by decide, by decide⟩) (congrArg Dt.int (by decide +kernel))) (eg_var (i := 3) rfl)) (ea_K (ed_lst (ea_1 (ed_lst ea_nil (by decide))) (by show 1 ≤ 100000; decide)) ea_nil))))))))))))) (by show 13 ≤ 100000; decide)) ?_
  have all : ∀ d ∈ [.non, .bl true, .bl false, .str "", .str "sell", .tup [], .tup [.str "a", .non], .lst [.int 1], .dic [], .int i, .tup [.int i], .int (((1000000000000000000000000000000 : Nat) : Int) + i), Dt.lst [.lst []]], OddV d := by
    have w1 := wid_v (i := i) h0 (by omega)
    refine allC ⟨fun _ _ => trivial, by decide⟩ (allC ⟨fun _ _ => trivial, by decide⟩ (allC ⟨fun _ _ => trivial, by decide⟩ (allC ⟨fun _ _ => (show ∀ c ∈ (Str.cps "").toList, c < 16 ^ 8 by decide +kernel), by decide +kernel⟩ (allC ⟨fun _ _ => (show ∀ c ∈ (Str.cps "sell").toList, c < 16 ^ 8 by decide +kernel), by decide +kernel⟩
      (allC ⟨fun n hn => ⟨by omega, trivial⟩, by decide⟩ (allC ⟨fun n hn => ⟨by omega, (show ∀ c ∈ (Str.cps "a").toList, c < 16 ^ 8 by decide +kernel), trivial, trivial⟩, by decide +kernel⟩ (allC ⟨fun n hn => ⟨by omega, (by show Nat.log2 _ < 1920; decide +kernel), trivial⟩, by decide +kernel⟩ (allC ⟨fun n hn => ⟨by omega, rfl⟩, by decide⟩ (allC (int_v h0 (by omega)) (allC ⟨fun n hn => ⟨by omega, log2_v (by omega), trivial⟩, ?_⟩ (allC (int_v (by omega) (by omega)) (allC ⟨fun n hn => ⟨by omega, ⟨by omega, trivial⟩, trivial⟩, by decide⟩ allN))))))))))))
    show (Dt.int i).wid + 2 + 0 + 3 ≤ 1000
    omega
  exact run_ret (eg_op (px := (· = .lst [.non, .bl true, .bl false, .str "", .str "sell", .tup [], .tup [.str "a", .non], .lst [.int 1], .dic [], .int i, .tup [.int i], .int (((1000000000000000000000000000000 : Nat) : Int) + i), .lst [.lst []]])) (py := (· = .int (way : Int))) (eg_var (i := 1) rfl) (eg_var (i := 2) rfl) fun x y ex ey => by
    subst ex ey
    exact r2_ixAL (atI_nat (List.getElem?_eq_getElem (by show way < 13; exact hway))) (all _ (List.getElem_mem _)))
/-! ### all errors of all kinds -/
theorem ok__law_right {f : Addr} {fd : FuncData} (F : Fun K "_law_right" "_law_right" s__law_right f fd) (B : Bf K mg aS aO) {Cs : List Addr} (c__law_odd : Cal P w K mg base 2 "_law_odd" (sp_odd K)) (c__law_placed : Cal P w K mg base 3 "_law_placed" (sp_placed K Cs)) (c__law_named : Cal P w K mg base 3 "_law_named" (sp_placed K Cs)) (c__law_is_right : CalG P w K mg base 2 "_law_is_right" (sp_isright K Cs)) : FnG P w K mg base 4 f fd A__law_right (sp_right K) := by
  refine fnG_xs F sc__law_right (fun _ => rfl) fun cdv A outer s H E gd hr => ⟨_, (pss_cons (ps_for PassesOwn.never rfl (pi_range1 rfl B.n_range (pa_cons pe_int pa_nil)) (pg_name (i := 1) sc__law_right.nd rfl (Or.inl rfl)) (pss_cons (ps_set (i := 2) sc__law_right.nd rfl (Or.inl rfl) (pe_c c__law_odd hr (by decide) (by rfl) (pa_cons (pv 0) pa_nil))) (pss_one (ps_for PassesOwn.never rfl (pi_anyK (K := K) (pe_lst (pa_cons (pe_c c__law_placed hr (by decide) (by rfl) (pa_cons (pv 2) pa_nil)) (pa_cons (pe_c c__law_named hr (by decide) (by rfl) (pa_cons (pv 2) pa_nil)) pa_nil)))) (pg_name (i := 3) sc__law_right.nd rfl (Or.inl rfl)) (pss_one (ps_for PassesOwn.never rfl (pi_range1 rfl B.n_range (pa_cons pe_int pa_nil)) (pg_name (i := 4) sc__law_right.nd rfl (Or.inl rfl)) (pss_one (ps_if (pt_not (pt_val (pe_cG c__law_is_right gd hr (by decide) (by rfl) (pa_cons (pe_ix (ix_anyK (K := K)) (pv 3) (pv 4) (fun _ _ => rfl)) (pa_cons (pv 4) (pa_cons (pv 2) pa_nil)))))) (pss_one (ps_ret pe_bl)) pss_nil)))))))) (pss_one (ps_ret pe_bl))), fun p _ _ => ?_⟩
  show Run K [p] _ [.sr p, .un, .un, .un, .un] _ (fun e => e = .bl true) _
  refine run_seq (N1 := fun _ => True) (run_forD (ds := rng 0 4) (fun _ G => ∃ s1 s2 s3 s4, (s1.ad = none ∧ s2.ad = none ∧ s3.ad = none ∧ s4.ad = none) ∧ G = [.sr p, s1, s2, s3, s4]) (wk_range1 (n := 4) (ea_1 eg_int) (by decide) (by decide)) ⟨.un, .un, .un, .un, ⟨rfl, rfl, rfl, rfl⟩, rfl⟩ (fun i d0 G1 hd hI => ?_) fun G1 _ => trivial) fun G1 _ => run_ret (eg_imp eg_bl fun d e => e)
  obtain ⟨s1, s2, s3, s4, ⟨a1, a2, a3, a4⟩, rfl⟩ := hI
  refine ⟨[1], _, gg_name (i := 1) rfl a1 (by simp), ?_⟩
  refine q_setP (i := 2) (s := s2) (p := OddV) (eg_callXS (i := 0) (px := (· = [])) rfl ea_nil fun ds e => ⟨(), e, trivial, fun d h => h⟩) (fun d hdv => ?_) rfl a2
  show Run K [p] _ [.sr p, .da d0, .da d, s3, s4] _ _ _
  refine run_forD (ds := [.lst (allV Cs d), .lst (allV Cs d)]) (fun _ G => ∃ s3 s4, (s3.ad = none ∧ s4.ad = none) ∧ G = [.sr p, .da d0, .da d, s3, s4]) (wk_any1 (d := .lst [.lst (allV Cs d), .lst (allV Cs d)]) (ed_lst (ea_2 (ed_callX (E := E0) (K := K) (rep := fun d : Dt => [d]) (ok := fun _ => True) (out := fun d : Dt => Dt.lst (allV Cs d)) d (ea_1 (eg_var (i := 2) rfl)) trivial) (ed_callX (E := E0) (K := K) (rep := fun d : Dt => [d]) (ok := fun _ => True) (out := fun d : Dt => Dt.lst (allV Cs d)) d (ea_1 (eg_var (i := 2) rfl)) trivial)) (by show 2 ≤ 100000; decide)) rfl) ⟨s3, s4, ⟨a3, a4⟩, rfl⟩ (fun j dj G1 hd hI => ?_) fun G1 hI => ?_
  · clear a3 a4 s3 s4
    obtain ⟨s3, s4, ⟨a3, a4⟩, rfl⟩ := hI
    have ej : dj = .lst (allV Cs d) := by
      rcases List.mem_cons.mp (List.mem_of_getElem? hd) with z | z
      · exact z
      · exact List.mem_singleton.mp z
    subst ej
    refine ⟨[3], _, gg_name (i := 3) rfl a3 (by simp), ?_⟩
    show Run K [p] _ [.sr p, .da d0, .da d, .da (.lst (allV Cs d)), s4] _ _ _
    refine run_forD (ds := rng 0 19) (fun _ G => ∃ s4, s4.ad = none ∧ G = [.sr p, .da d0, .da d, .da (.lst (allV Cs d)), s4]) (wk_range1 (n := 19) (ea_1 eg_int) (by decide) (by decide)) ⟨s4, a4, rfl⟩ (fun k dk G1 hd hI => ?_) fun G1 hI => ?_
    · clear a4 s4
      obtain ⟨s4, a4, rfl⟩ := hI
      obtain ⟨hk, rfl⟩ := rng_get hd
      rw [Int.zero_add]
      refine ⟨[4], _, gg_name (i := 4) rfl a4 (by simp), ?_⟩
      show Run K [p] _ [.sr p, .da d0, .da d, .da (.lst (allV Cs d)), .da (.int (k : Int))] _ _ _
      have ek : (allV Cs d)[k]? = some (exD Cs k d) := by
        unfold allV
        rw [List.getElem?_map, List.getElem?_range hk]
        rfl
      exact l_no (et_not1 (a := true) (et_B1 (ed_callX (E := E0) (K := K) (rep := fun a : IrIn => [exD Cs a.i a.d, .int (a.i : Int), a.d]) (ok := IrIn.ok) (out := fun _ => Dt.bl true) ⟨k, d⟩ (ea_3 (ed_ixL (ds := allV Cs d) (eg_var (i := 3) rfl) (eg_var (i := 4) rfl) (atI_nat ek)) (eg_var (i := 4) rfl) (eg_var (i := 2) rfl)) ⟨hk, hdv.s 50 (by decide), Nat.le_trans hdv.w (by decide)⟩))) ⟨_, rfl, rfl⟩
    · obtain ⟨s4, a4, rfl⟩ := hI
      exact ⟨_, s4, ⟨rfl, a4⟩, rfl⟩
  · obtain ⟨s3, s4, ⟨a3, a4⟩, rfl⟩ := hI
    exact ⟨_, _, s3, s4, ⟨rfl, rfl, a3, a4⟩, rfl⟩
end
end Sb

set_option Elab.async false
set_option linter.all false
set_option maxRecDepth 100000
set_option maxHeartbeats 8000000
set_option autoImplicit false
namespace Sb
open PySem PySem.Spec PyProof.Rows L2 TL
section
variable {P : Program} {w : World} {K : KX} {mg : Str → Option Value} {base : Heap} {aS aO : Addr}
def sTold7 : Str := "[4, 8, 6, 6, 3, 1000000000000, 6]"
theorem ok_law01 {f : Addr} {fd : FuncData} (F : Fun K "law" "law" s_law f fd) (B : Bf K mg aS aO) (c__law_source : Cal P w K mg base 1 "_law_source" (sp_source K)) {kr : Nat} (c__law_right : CalG P w K mg base kr "_law_right" (sp_right K)) (hkr : 1 ≤ kr) : FnG P w K mg base (kr + 1) f fd A_law (sp_law K) := by
  refine fun_okG F sc_law (fun vs H Q E h => by obtain ⟨a, ns, rfl, _⟩ := h; rfl) fun cdv A outer s H vs Q E gd hr h => ⟨_, (pss_cons (ps_set (i := 1) sc_law.nd rfl (Or.inl rfl) (pe_lst (pa_cons (pe_gc (by rfl) B.g_MOST_SEATS) (pa_cons (pe_gc (by rfl) B.g_MOST_LINES) (pa_cons (pe_gc (by rfl) B.g_MOST_ROWS) (pa_cons (pe_gc (by rfl) B.g_MOST_PARTS) (pa_cons (pe_gc (by rfl) B.g_MOST_RING) (pa_cons (pe_gc (by rfl) B.g_MOST_INTEGER) (pa_cons (pe_gc (by rfl) B.g_MOST_CHANGES) pa_nil))))))))) (pss_cons (ps_if (pt_cmpR (op_neK (K := K) hr.units) (pe_callB (call_reprK (K := K) gd hr.units) (by rfl) B.n_repr (by decide +kernel) (pa_cons (pv 1) pa_nil)) pe_str (nomark _)) (pss_one (ps_ret pe_bl)) pss_nil) (pss_cons (ps_for PassesOwn.never rfl (pi_range1 rfl B.n_range (pa_cons (pe_callB (call_max2 rfl) (by rfl) B.n_max (by decide +kernel) (pa_cons pe_int (pa_cons (pe_callB (call_min2 rfl) (by rfl) B.n_min (by decide +kernel) (pa_cons (pe_callB (call_lenK (K := K)) (by rfl) B.n_len (by decide +kernel) (pa_cons (pv 0) pa_nil)) (pa_cons pe_int pa_nil))) pa_nil))) pa_nil)) (pg_name (i := 2) sc_law.nd rfl (Or.inl rfl)) (pss_one (ps_if (pt_not (pt_val (pe_cG c__law_right gd hr (Nat.le_refl _) (by rfl) (pa_cons (pe_c c__law_source hr hkr (by rfl) (pa_cons (pv 0) (pa_cons (pv 2) pa_nil))) pa_nil)))) (pss_one (ps_ret pe_bl)) pss_nil))) (pss_one (ps_ret pe_bl))))), ?_⟩
  obtain ⟨a, ns, rfl, hl, tb0, hq, kk⟩ := h
  have h0 : Hold K H [] [] [.rf a, .un, .un] H (L2.start N_law [.ref a]) := by
    have ep : pof [] [.rf a, .un, .un] = [] := rfl
    refine ⟨rfl, fun i s e => ?_, by rw [ep]; exact List.nodup_nil, rfl, fun b o e _ _ => by rw [ep, hid_out (by simp)]; exact e, fun q hq => (nomatch hq), fun q hq => (nomatch hq), tb0⟩
    rw [ep]
    match i, e with
    | 0, e => cases e; exact ⟨_, rfl, rfl⟩
    | 1, e => cases e; exact ⟨_, rfl, trivial⟩
    | 2, e => cases e; exact ⟨_, rfl, trivial⟩
    | n + 3, e => simp at e
  generalize L2.start N_law [V.ref a] = σ at h0
  refine hold_seq (N1 := (· = [.rf a, .da (.lst [.int 4, .int 8, .int 6, .int 6, .int 3, .int 1000000000000, .int 6]), .un])) (run_set (i := 1) (s := .un) (p := (· = .lst [.int 4, .int 8, .int 6, .int 6, .int 3, .int 1000000000000, .int 6])) (ed_lst (ea_K eg_int (ea_K eg_int (ea_K eg_int (ea_K eg_int (ea_K eg_int (ea_K eg_int (ea_K eg_int ea_nil))))))) (by show 7 ≤ 100000; decide)) rfl rfl fun d e => by rw [e]; rfl) h0 fun G1 σ1 H1 hG h1 => ?_
  subst hG
  refine hold_seq (N1 := (· = [.rf a, .da (.lst [.int 4, .int 8, .int 6, .int 6, .int 3, .int 1000000000000, .int 6]), .un])) (l_no (et_eq (et_tst1 (ed_neS (i := (Dt.lst [.int 4, .int 8, .int 6, .int 6, .int 3, .int 1000000000000, .int 6]).py.shown) (j := sTold7) (ed_reprS (eg_var (i := 1) rfl) ⟨by decide, by (repeat' constructor) <;> (first | trivial | (show Nat.log2 _ < 1920; decide +kernel))⟩ (by decide +kernel)) eg_str)) (by decide +kernel)) rfl) h1 fun G2 σ2 H2 hG h2 => ?_
  subst hG
  have e02 : ExN H H2 := (hold_ex h2)
  have hq2 : SqL K H2 a (ns.map V.int) := e02.sqL hq
  have s0 : σ2[0]? = some (some (.ref a)) := by
    obtain ⟨o, e, z⟩ := h2.sl 0 _ rfl
    rw [e, show o = _ from z]
  have sl : σ2.length = 3 := h2.len
  have tb2 := h2.tb
  clear h0 h1 h2
  refine ⟨.ref a, s0, .ref a, ns.length, rfl, .inl ⟨_, hq2, by rw [List.length_map]⟩, (ns.length : Int), 4, rfl, 2, _, rfl, _, rfl, ?_, ?_, ?_⟩
  · split <;> split <;> omega
  · split <;> split <;> omega
  generalize (if (if (4 : Int) < (ns.length : Int) then (4 : Int) else (ns.length : Int)) > 2 then (if (4 : Int) < (ns.length : Int) then (4 : Int) else (ns.length : Int)) else 2).toNat = n
  refine ⟨fun i m σ' H' => m = n - i ∧ i ≤ n ∧ σ'[0]? = some (some (.ref a)) ∧ σ'.length = 3 ∧ Tb K H' ∧ SqL K H' a (ns.map V.int), ⟨n, by omega, by omega, s0, sl, tb2, hq2⟩, ?_⟩
  rintro i m σ' H' ⟨rfl, hi, t0, tl, tb1, hq'⟩
  by_cases hlt : i < n
  · refine .inr ⟨hlt, fun σ2 H2 => σ2[0]? = some (some (.ref a)) ∧ σ2.length = 3 ∧ Tb K H2 ∧ SqL K H2 a (ns.map V.int), fun σ2 H2 h2 => ⟨n - (i + 1), by omega, rfl, by omega, h2⟩, fun x H2 y => ?_⟩
    obtain ⟨rfl, rfl⟩ := y
    have u0 : (σ'.set 2 (some (.int (0 + (i : Int)))))[0]? = some (some (.ref a)) := by rw [List.getElem?_set_ne (by decide)]; exact t0
    have u1 : (σ'.set 2 (some (.int (0 + (i : Int)))))[2]? = some (some (.int (0 + (i : Int)))) := List.getElem?_set_self (by omega)
    have ul : (σ'.set 2 (some (.int (0 + (i : Int))))).length = 3 := by rw [List.length_set]; exact tl
    refine ⟨.ref a, u0, .int (0 + (i : Int)), u1, a, i, ns, by rw [show (0 + (i : Int)) = (i : Int) by omega]; rfl, tb1, hq', hl, fun p x y z H3 hp e3 tb3 h3 => ?_⟩
    refine ⟨(), trivial, [p], p, [], [], rfl, by simp, ⟨x, y, z, h3⟩, fun b hb => by rw [List.mem_singleton.mp hb]; exact ⟨_, h3, nt_lst⟩, by simp, tb3, rfl, rfl, fun v d H4 hd hs4 e4 tb4 dn => ?_⟩
    have hd : d = .bl true := hd
    subst hd
    cases (show v = _ from dn)
    refine ⟨true, rfl, iteF ?_⟩
    exact ⟨u0, ul, tb4, sqL_past hq' hp e3 e4⟩
  · refine .inl ⟨by show n ≤ i; omega, ?_⟩
    exact kk _
end
end Sb

set_option Elab.async false
set_option linter.all false
set_option maxRecDepth 100000
set_option autoImplicit false
namespace Sb
open PySem PySem.Spec PyProof.Rows L2 TL
abbrev s_InvalidText___init__ : Stmt := inClass (top 4) 0
abbrev N_InvalidText___init__ : List Str := ["self", "given"]
abbrev A_InvalidText___init__ : List Str := ["self", "given"]
theorem sc_InvalidText___init__ : FnScope N_InvalidText___init__ A_InvalidText___init__ (defScope s_InvalidText___init__) :=
  ⟨rfl, rfl, rfl, by decide +kernel, rfl, by decide +kernel, by decide +kernel⟩
abbrev s_InvalidName___init__ : Stmt := inClass (top 5) 0
abbrev N_InvalidName___init__ : List Str := ["self", "given"]
abbrev A_InvalidName___init__ : List Str := ["self", "given"]
theorem sc_InvalidName___init__ : FnScope N_InvalidName___init__ A_InvalidName___init__ (defScope s_InvalidName___init__) :=
  ⟨rfl, rfl, rfl, by decide +kernel, rfl, by decide +kernel, by decide +kernel⟩
abbrev s_InvalidNumber___init__ : Stmt := inClass (top 6) 0
abbrev N_InvalidNumber___init__ : List Str := ["self", "given"]
abbrev A_InvalidNumber___init__ : List Str := ["self", "given"]
theorem sc_InvalidNumber___init__ : FnScope N_InvalidNumber___init__ A_InvalidNumber___init__ (defScope s_InvalidNumber___init__) :=
  ⟨rfl, rfl, rfl, by decide +kernel, rfl, by decide +kernel, by decide +kernel⟩
abbrev s_InvalidQuestion___init__ : Stmt := inClass (top 7) 0
abbrev N_InvalidQuestion___init__ : List Str := ["self", "given"]
abbrev A_InvalidQuestion___init__ : List Str := ["self", "given"]
theorem sc_InvalidQuestion___init__ : FnScope N_InvalidQuestion___init__ A_InvalidQuestion___init__ (defScope s_InvalidQuestion___init__) :=
  ⟨rfl, rfl, rfl, by decide +kernel, rfl, by decide +kernel, by decide +kernel⟩
abbrev s_InvalidCase___init__ : Stmt := inClass (top 8) 0
abbrev N_InvalidCase___init__ : List Str := ["self", "given"]
abbrev A_InvalidCase___init__ : List Str := ["self", "given"]
theorem sc_InvalidCase___init__ : FnScope N_InvalidCase___init__ A_InvalidCase___init__ (defScope s_InvalidCase___init__) :=
  ⟨rfl, rfl, rfl, by decide +kernel, rfl, by decide +kernel, by decide +kernel⟩
abbrev s_InvalidChange___init__ : Stmt := inClass (top 9) 0
abbrev N_InvalidChange___init__ : List Str := ["self", "given"]
abbrev A_InvalidChange___init__ : List Str := ["self", "given"]
theorem sc_InvalidChange___init__ : FnScope N_InvalidChange___init__ A_InvalidChange___init__ (defScope s_InvalidChange___init__) :=
  ⟨rfl, rfl, rfl, by decide +kernel, rfl, by decide +kernel, by decide +kernel⟩
abbrev s_InvalidWish___init__ : Stmt := inClass (top 10) 0
abbrev N_InvalidWish___init__ : List Str := ["self", "given"]
abbrev A_InvalidWish___init__ : List Str := ["self", "given"]
theorem sc_InvalidWish___init__ : FnScope N_InvalidWish___init__ A_InvalidWish___init__ (defScope s_InvalidWish___init__) :=
  ⟨rfl, rfl, rfl, by decide +kernel, rfl, by decide +kernel, by decide +kernel⟩
abbrev s_InvalidIndex___init__ : Stmt := inClass (top 11) 0
abbrev N_InvalidIndex___init__ : List Str := ["self", "given"]
abbrev A_InvalidIndex___init__ : List Str := ["self", "given"]
theorem sc_InvalidIndex___init__ : FnScope N_InvalidIndex___init__ A_InvalidIndex___init__ (defScope s_InvalidIndex___init__) :=
  ⟨rfl, rfl, rfl, by decide +kernel, rfl, by decide +kernel, by decide +kernel⟩
abbrev s_NotARule___init__ : Stmt := inClass (top 12) 0
abbrev N_NotARule___init__ : List Str := ["self", "given"]
abbrev A_NotARule___init__ : List Str := ["self", "given"]
theorem sc_NotARule___init__ : FnScope N_NotARule___init__ A_NotARule___init__ (defScope s_NotARule___init__) :=
  ⟨rfl, rfl, rfl, by decide +kernel, rfl, by decide +kernel, by decide +kernel⟩
abbrev s_OtherSeats___init__ : Stmt := inClass (top 13) 0
abbrev N_OtherSeats___init__ : List Str := ["self", "given"]
abbrev A_OtherSeats___init__ : List Str := ["self", "given"]
theorem sc_OtherSeats___init__ : FnScope N_OtherSeats___init__ A_OtherSeats___init__ (defScope s_OtherSeats___init__) :=
  ⟨rfl, rfl, rfl, by decide +kernel, rfl, by decide +kernel, by decide +kernel⟩
abbrev s_InvalidSeats___init__ : Stmt := inClass (top 14) 0
abbrev N_InvalidSeats___init__ : List Str := ["self", "index"]
abbrev A_InvalidSeats___init__ : List Str := ["self", "index"]
theorem sc_InvalidSeats___init__ : FnScope N_InvalidSeats___init__ A_InvalidSeats___init__ (defScope s_InvalidSeats___init__) :=
  ⟨rfl, rfl, rfl, by decide +kernel, rfl, by decide +kernel, by decide +kernel⟩
abbrev s_InvalidLines___init__ : Stmt := inClass (top 15) 0
abbrev N_InvalidLines___init__ : List Str := ["self", "index"]
abbrev A_InvalidLines___init__ : List Str := ["self", "index"]
theorem sc_InvalidLines___init__ : FnScope N_InvalidLines___init__ A_InvalidLines___init__ (defScope s_InvalidLines___init__) :=
  ⟨rfl, rfl, rfl, by decide +kernel, rfl, by decide +kernel, by decide +kernel⟩
abbrev s_InvalidRows___init__ : Stmt := inClass (top 16) 0
abbrev N_InvalidRows___init__ : List Str := ["self", "index"]
abbrev A_InvalidRows___init__ : List Str := ["self", "index"]
theorem sc_InvalidRows___init__ : FnScope N_InvalidRows___init__ A_InvalidRows___init__ (defScope s_InvalidRows___init__) :=
  ⟨rfl, rfl, rfl, by decide +kernel, rfl, by decide +kernel, by decide +kernel⟩
abbrev s_InvalidBids___init__ : Stmt := inClass (top 17) 0
abbrev N_InvalidBids___init__ : List Str := ["self", "index"]
abbrev A_InvalidBids___init__ : List Str := ["self", "index"]
theorem sc_InvalidBids___init__ : FnScope N_InvalidBids___init__ A_InvalidBids___init__ (defScope s_InvalidBids___init__) :=
  ⟨rfl, rfl, rfl, by decide +kernel, rfl, by decide +kernel, by decide +kernel⟩
abbrev s_InvalidChanges___init__ : Stmt := inClass (top 18) 0
abbrev N_InvalidChanges___init__ : List Str := ["self", "index"]
abbrev A_InvalidChanges___init__ : List Str := ["self", "index"]
theorem sc_InvalidChanges___init__ : FnScope N_InvalidChanges___init__ A_InvalidChanges___init__ (defScope s_InvalidChanges___init__) :=
  ⟨rfl, rfl, rfl, by decide +kernel, rfl, by decide +kernel, by decide +kernel⟩
abbrev s_UnknownName___init__ : Stmt := inClass (top 19) 0
abbrev N_UnknownName___init__ : List Str := ["self", "given"]
abbrev A_UnknownName___init__ : List Str := ["self", "given"]
theorem sc_UnknownName___init__ : FnScope N_UnknownName___init__ A_UnknownName___init__ (defScope s_UnknownName___init__) :=
  ⟨rfl, rfl, rfl, by decide +kernel, rfl, by decide +kernel, by decide +kernel⟩
abbrev s_InUse___init__ : Stmt := inClass (top 20) 0
abbrev N_InUse___init__ : List Str := ["self", "index"]
abbrev A_InUse___init__ : List Str := ["self", "index"]
theorem sc_InUse___init__ : FnScope N_InUse___init__ A_InUse___init__ (defScope s_InUse___init__) :=
  ⟨rfl, rfl, rfl, by decide +kernel, rfl, by decide +kernel, by decide +kernel⟩
abbrev s_Broken___init__ : Stmt := inClass (top 22) 0
abbrev N_Broken___init__ : List Str := ["self", "index"]
abbrev A_Broken___init__ : List Str := ["self", "index"]
theorem sc_Broken___init__ : FnScope N_Broken___init__ A_Broken___init__ (defScope s_Broken___init__) :=
  ⟨rfl, rfl, rfl, by decide +kernel, rfl, by decide +kernel, by decide +kernel⟩
section
variable {P : Program} {w : World} {K : KX} {mg : Str → Option Value} {base : Heap}
theorem ok_InvalidText {f : Addr} {fd : FuncData} (F : Fun K "__init__" "InvalidText.__init__" s_InvalidText___init__ f fd) : FnOk P w K mg base CX0 1 f fd A_InvalidText___init__ (spO K "given") :=
  fn_O F sc_InvalidText___init__ fun cdv A outer s H E => pss_one (ps_ostE (pe_var (i := 0) rfl (.inl rfl)) (pe_var (i := 1) rfl (.inl rfl)))
theorem ok_InvalidName {f : Addr} {fd : FuncData} (F : Fun K "__init__" "InvalidName.__init__" s_InvalidName___init__ f fd) : FnOk P w K mg base CX0 1 f fd A_InvalidName___init__ (spO K "given") :=
  fn_O F sc_InvalidName___init__ fun cdv A outer s H E => pss_one (ps_ostE (pe_var (i := 0) rfl (.inl rfl)) (pe_var (i := 1) rfl (.inl rfl)))
theorem ok_InvalidNumber {f : Addr} {fd : FuncData} (F : Fun K "__init__" "InvalidNumber.__init__" s_InvalidNumber___init__ f fd) : FnOk P w K mg base CX0 1 f fd A_InvalidNumber___init__ (spO K "given") :=
  fn_O F sc_InvalidNumber___init__ fun cdv A outer s H E => pss_one (ps_ostE (pe_var (i := 0) rfl (.inl rfl)) (pe_var (i := 1) rfl (.inl rfl)))
theorem ok_InvalidQuestion {f : Addr} {fd : FuncData} (F : Fun K "__init__" "InvalidQuestion.__init__" s_InvalidQuestion___init__ f fd) : FnOk P w K mg base CX0 1 f fd A_InvalidQuestion___init__ (spO K "given") :=
  fn_O F sc_InvalidQuestion___init__ fun cdv A outer s H E => pss_one (ps_ostE (pe_var (i := 0) rfl (.inl rfl)) (pe_var (i := 1) rfl (.inl rfl)))
theorem ok_InvalidCase {f : Addr} {fd : FuncData} (F : Fun K "__init__" "InvalidCase.__init__" s_InvalidCase___init__ f fd) : FnOk P w K mg base CX0 1 f fd A_InvalidCase___init__ (spO K "given") :=
  fn_O F sc_InvalidCase___init__ fun cdv A outer s H E => pss_one (ps_ostE (pe_var (i := 0) rfl (.inl rfl)) (pe_var (i := 1) rfl (.inl rfl)))
theorem ok_InvalidChange {f : Addr} {fd : FuncData} (F : Fun K "__init__" "InvalidChange.__init__" s_InvalidChange___init__ f fd) : FnOk P w K mg base CX0 1 f fd A_InvalidChange___init__ (spO K "given") :=
  fn_O F sc_InvalidChange___init__ fun cdv A outer s H E => pss_one (ps_ostE (pe_var (i := 0) rfl (.inl rfl)) (pe_var (i := 1) rfl (.inl rfl)))
theorem ok_InvalidWish {f : Addr} {fd : FuncData} (F : Fun K "__init__" "InvalidWish.__init__" s_InvalidWish___init__ f fd) : FnOk P w K mg base CX0 1 f fd A_InvalidWish___init__ (spO K "given") :=
  fn_O F sc_InvalidWish___init__ fun cdv A outer s H E => pss_one (ps_ostE (pe_var (i := 0) rfl (.inl rfl)) (pe_var (i := 1) rfl (.inl rfl)))
theorem ok_InvalidIndex {f : Addr} {fd : FuncData} (F : Fun K "__init__" "InvalidIndex.__init__" s_InvalidIndex___init__ f fd) : FnOk P w K mg base CX0 1 f fd A_InvalidIndex___init__ (spO K "given") :=
  fn_O F sc_InvalidIndex___init__ fun cdv A outer s H E => pss_one (ps_ostE (pe_var (i := 0) rfl (.inl rfl)) (pe_var (i := 1) rfl (.inl rfl)))
theorem ok_NotARule {f : Addr} {fd : FuncData} (F : Fun K "__init__" "NotARule.__init__" s_NotARule___init__ f fd) : FnOk P w K mg base CX0 1 f fd A_NotARule___init__ (spO K "given") :=
  fn_O F sc_NotARule___init__ fun cdv A outer s H E => pss_one (ps_ostE (pe_var (i := 0) rfl (.inl rfl)) (pe_var (i := 1) rfl (.inl rfl)))
theorem ok_OtherSeats {f : Addr} {fd : FuncData} (F : Fun K "__init__" "OtherSeats.__init__" s_OtherSeats___init__ f fd) : FnOk P w K mg base CX0 1 f fd A_OtherSeats___init__ (spO K "given") :=
  fn_O F sc_OtherSeats___init__ fun cdv A outer s H E => pss_one (ps_ostE (pe_var (i := 0) rfl (.inl rfl)) (pe_var (i := 1) rfl (.inl rfl)))
theorem ok_InvalidSeats {f : Addr} {fd : FuncData} (F : Fun K "__init__" "InvalidSeats.__init__" s_InvalidSeats___init__ f fd) : FnOk P w K mg base CX0 1 f fd A_InvalidSeats___init__ (spO K "index") :=
  fn_O F sc_InvalidSeats___init__ fun cdv A outer s H E => pss_one (ps_ostE (pe_var (i := 0) rfl (.inl rfl)) (pe_var (i := 1) rfl (.inl rfl)))
theorem ok_InvalidLines {f : Addr} {fd : FuncData} (F : Fun K "__init__" "InvalidLines.__init__" s_InvalidLines___init__ f fd) : FnOk P w K mg base CX0 1 f fd A_InvalidLines___init__ (spO K "index") :=
  fn_O F sc_InvalidLines___init__ fun cdv A outer s H E => pss_one (ps_ostE (pe_var (i := 0) rfl (.inl rfl)) (pe_var (i := 1) rfl (.inl rfl)))
theorem ok_InvalidRows {f : Addr} {fd : FuncData} (F : Fun K "__init__" "InvalidRows.__init__" s_InvalidRows___init__ f fd) : FnOk P w K mg base CX0 1 f fd A_InvalidRows___init__ (spO K "index") :=
  fn_O F sc_InvalidRows___init__ fun cdv A outer s H E => pss_one (ps_ostE (pe_var (i := 0) rfl (.inl rfl)) (pe_var (i := 1) rfl (.inl rfl)))
theorem ok_InvalidBids {f : Addr} {fd : FuncData} (F : Fun K "__init__" "InvalidBids.__init__" s_InvalidBids___init__ f fd) : FnOk P w K mg base CX0 1 f fd A_InvalidBids___init__ (spO K "index") :=
  fn_O F sc_InvalidBids___init__ fun cdv A outer s H E => pss_one (ps_ostE (pe_var (i := 0) rfl (.inl rfl)) (pe_var (i := 1) rfl (.inl rfl)))
theorem ok_InvalidChanges {f : Addr} {fd : FuncData} (F : Fun K "__init__" "InvalidChanges.__init__" s_InvalidChanges___init__ f fd) : FnOk P w K mg base CX0 1 f fd A_InvalidChanges___init__ (spO K "index") :=
  fn_O F sc_InvalidChanges___init__ fun cdv A outer s H E => pss_one (ps_ostE (pe_var (i := 0) rfl (.inl rfl)) (pe_var (i := 1) rfl (.inl rfl)))
theorem ok_UnknownName {f : Addr} {fd : FuncData} (F : Fun K "__init__" "UnknownName.__init__" s_UnknownName___init__ f fd) : FnOk P w K mg base CX0 1 f fd A_UnknownName___init__ (spO K "given") :=
  fn_O F sc_UnknownName___init__ fun cdv A outer s H E => pss_one (ps_ostE (pe_var (i := 0) rfl (.inl rfl)) (pe_var (i := 1) rfl (.inl rfl)))
theorem ok_InUse {f : Addr} {fd : FuncData} (F : Fun K "__init__" "InUse.__init__" s_InUse___init__ f fd) : FnOk P w K mg base CX0 1 f fd A_InUse___init__ (spO K "index") :=
  fn_O F sc_InUse___init__ fun cdv A outer s H E => pss_one (ps_ostE (pe_var (i := 0) rfl (.inl rfl)) (pe_var (i := 1) rfl (.inl rfl)))
theorem ok_Broken {f : Addr} {fd : FuncData} (F : Fun K "__init__" "Broken.__init__" s_Broken___init__ f fd) : FnOk P w K mg base CX0 1 f fd A_Broken___init__ (spO K "index") :=
  fn_O F sc_Broken___init__ fun cdv A outer s H E => pss_one (ps_ostE (pe_var (i := 0) rfl (.inl rfl)) (pe_var (i := 1) rfl (.inl rfl)))
end
/-- what KiV asks, as a Bool -/
def kiB (K : PySem.W.Frag) (Cs : List Addr) (BV BN NA : Addr) : Bool := (List.range 19).all fun i =>
  ((List.range 19).all fun j => PySem.W.kitOne K (.ref (Cs.getD i 0)) (.ref (Cs.getD j 0)) == some (decide (j = i))) && (PySem.W.kitOne K (.ref (Cs.getD i 0)) (.ref BV) == some (decide (i < 15)) && (PySem.W.kitOne K (.ref (Cs.getD i 0)) (.ref BN) == some (decide (14 < i) && decide (i < 17)) && (PySem.W.kitOne K (.ref (Cs.getD i 0)) (.ref NA) == some (decide (i > 16)) &&
  (PySem.W.kitOne K (.ref (Cs.getD i 0)) (.type (if i < 15 then "ValueError" else if i < 17 then "LookupError" else "ArithmeticError")) == some true))))
theorem kiB_ok {K : KX} {Cs : List Addr} {BV BN NA : Addr} (hl : Cs.length = 19) (h : kiB K.fr Cs BV BN NA = true) : KiV K Cs BV BN NA := by
  have key : ∀ i, i < 19 → _ := fun i hi => List.all_eq_true.mp h i (List.mem_range.mpr hi)
  have k2 : ∀ i, i < 19 → _ := fun i hi => Bool.and_eq_true_iff.mp (key i hi)
  refine ⟨hl, fun i hi j hj => beq_iff_eq.mp (List.all_eq_true.mp (k2 i hi).1 j (List.mem_range.mpr hj)), fun i hi => beq_iff_eq.mp (Bool.and_eq_true_iff.mp (k2 i hi).2).1, fun i hi => beq_iff_eq.mp (Bool.and_eq_true_iff.mp (Bool.and_eq_true_iff.mp (k2 i hi).2).2).1, fun i hi => beq_iff_eq.mp (Bool.and_eq_true_iff.mp (Bool.and_eq_true_iff.mp (Bool.and_eq_true_iff.mp (k2 i hi).2).2).2).1, fun i hi => ?_, fun i h1 h2 => ?_, fun i h1 h2 => ?_⟩
  · have := beq_iff_eq.mp (Bool.and_eq_true_iff.mp (Bool.and_eq_true_iff.mp (Bool.and_eq_true_iff.mp (k2 i (by omega)).2).2).2).2
    rwa [if_pos hi] at this
  · have := beq_iff_eq.mp (Bool.and_eq_true_iff.mp (Bool.and_eq_true_iff.mp (Bool.and_eq_true_iff.mp (k2 i (by omega)).2).2).2).2
    rwa [if_neg (by omega), if_pos h2] at this
  · have := beq_iff_eq.mp (Bool.and_eq_true_iff.mp (Bool.and_eq_true_iff.mp (Bool.and_eq_true_iff.mp (k2 i h2).2).2).2).2
    rwa [if_neg (by omega), if_neg (by omega)] at this
end Sb

set_option Elab.async false
set_option linter.all false
set_option maxRecDepth 100000
set_option autoImplicit false
namespace Sb
open PySem PySem.Spec PyProof.Rows L2 TL
/-! ### the index in a sorted list is the number of what stands before -/
def plLe (xs : List Int) (p q : Int) : Bool := decide (-(xs.getD p.toNat 0) < -(xs.getD q.toNat 0) ∨ (-(xs.getD p.toNat 0) = -(xs.getD q.toNat 0) ∧ p ≤ q))
def plLt (xs : List Int) (p q : Int) : Bool := plLe xs p q && !decide (p = q)
end Sb

set_option Elab.async false
set_option linter.all false
set_option maxRecDepth 100000
set_option autoImplicit false
namespace Sb
open PySem PySem.Spec PyProof.Rows L2
/-! ### the law's own call, where one def makes lambdas: its code object at c, its table at T, empty at first -/
section
variable {P : Program} {w : World} {K : PySem.W.Frag} {mg mb : Str → Option Value} {k : Nat} {fa a c T : Addr} {fd : FuncData} {x : Str} {sp : Sp} {s1 : Shared} {vs : List Value} {ns : List Int}
end
end Sb

set_option Elab.async false
set_option linter.all false
set_option maxRecDepth 100000
set_option autoImplicit false
namespace Sb
open PySem PySem.Spec PyProof.Rows L2
/-! ### a def with a source that makes lambdas, where nothing is being shown -/
section
variable {P : Program} {w : World} {K : KX} {mg : Str → Option Value} {base : Heap}
variable {al : Type} {rep : al → List Dt} {ok : al → Prop} {post : al → Dt → Prop}
end
/-! ### the law's own call, where some defs make lambdas: (code object, table), empty at first -/
section
variable {P : Program} {w : World} {K : PySem.W.Frag} {mg mb : Str → Option Value} {k : Nat} {fa a : Addr} {ts : List (Addr × Addr)} {fd : FuncData} {x : Str} {sp : Sp} {s1 : Shared} {vs : List Value} {ns : List Int}
theorem ground_gets {h : Heap} {H : Hp} (hA : ∀ b, H b ≠ none → b = a ∨ b ∈ ts.map (·.2)) (ha : h.get? a = some { cls := .type "list", data := .seq vs.toArray }) (hT : ∀ b ∈ ts.map (·.2), h.get? b = some { cls := .none, data := .fields #[] }) {b : Addr} {o : Obj} (e : h.get? b = some o)
    (n1 : ∀ ws m, o.data ≠ .seq ws m) (n2 : o.data ≠ .fields #[]) : (hidT h H).get? b = some o := by
  refine hidT_get e ?_
  cases z : H b with
  | none => rfl
  | some u =>
    rcases hA b (by rw [z]; simp) with q | q
    · rw [q, ha] at e
      cases e
      exact (n1 _ _ rfl).elim
    · rw [hT b q] at e
      cases e
      exact (n2 rfl).elim
theorem lawGTs (KIn : K.In s1.heap) (hns : s1.heap.Ns mainGlobals mg) (hb : s1.heap.Ns builtinsNs mb) (hbb : ∀ x : Str, x ≠ "__name__" → mb x = bootBuiltins x) (lim : s1.heap.NoLimit) (gens : s1.gens = #[])
    (hT : ∀ b ∈ ts.map (·.2), s1.heap.get? b = some { cls := .none, data := .fields #[] }) (nT : ∀ b ∈ ts.map (·.2), K.lookup b = none) (hC : ∀ p ∈ ts, PySem.W.CodeHd s1.heap p.1 p.2)
    (hbm : ∃ (bm : Addr) (ob : Obj), mg "__builtins__" = some (.ref bm) ∧ bm ≠ builtinsNs ∧ s1.heap.get? bm = some ob ∧ ob.cls = .type "module" ∧ ob.dict = some builtinsNs ∧ ob.data = .plain)
    (ha : s1.heap.get? a = some { cls := .type "list", data := .seq vs.toArray }) (hi : IntsAre vs ns) (hl : ns.length ≤ sizeLine) (room : Room k callerA)
    (F : ∀ base : Heap, K.In base → base.Ns mainGlobals mg → (∀ p ∈ ts, LamX.TabB base mg p.1 p.2) → FnG P w K mg base k fa fd [x] sp)
    (bnd : ∀ (s : Shared) (u : Value), BindsTo s fd ⟨[u], []⟩ [(x, u)])
    (want : ∀ H : Hp, (∀ b ∈ ts.map (·.2), H b = some (.tbl #[])) → SqL K H a (ns.map V.int) → sp [.ref a] H (fun v _ => v = .bl true) fun _ _ _ => False) :
    codeAny (model P w) callerA (.call (.ref fa) ⟨[.ref a], []⟩) (fun r s2 => r = .ok (.ret (.bool true)) ∧ OldK s1.heap s2.heap ∧ s2.os = s1.os ∧ AllBare s2.gens) s1 := by
  have rv := vals_ints hi
  have lenV := hi.length
  have aT : a ∉ ts.map (·.2) := fun z => by
    rw [hT a z] at ha
    cases ha
  have main : ∀ H : Hp, (∀ b ∈ ts.map (·.2), H b = some (.tbl #[])) → (∀ b, b ∉ ts.map (·.2) → H b = none ∨ ∃ o xs, H b = some (.frz o (.lst xs))) → SqL K H a (ns.map V.int) → HOk P w H s1.heap → (∀ b, H b ≠ none → b = a ∨ b ∈ ts.map (·.2)) → (H a ≠ none → K.lookup a = none) →
      codeAny (model P w) callerA (.call (.ref fa) ⟨[.ref a], []⟩) (fun r s2 => r = .ok (.ret (.bool true)) ∧ OldK s1.heap s2.heap ∧ s2.os = s1.os ∧ AllBare s2.gens) s1 := by
    intro H hHT hO hS hok hA hK
    have gg : ∀ {b : Addr} {o : Obj}, s1.heap.get? b = some o → (∀ ws m, o.data ≠ .seq ws m) → o.data ≠ .fields #[] → (hidT s1.heap H).get? b = some o := fun e n1 n2 => ground_gets hA ha hT e n1 n2
    have ns2 : ∀ {b : Addr} {m : Str → Option Value}, s1.heap.Ns b m → (hidT s1.heap H).Ns b m := by
      rintro b m ⟨o, es, ep, q, d, r⟩
      exact ⟨o, es, ep, gg q (fun ws m z => by rw [d] at z; cases z) (fun z => by rw [d] at z; cases z), d, r⟩
    have kb : K.In (hidT s1.heap H) := by
      intro b o q
      refine hidT_get (KIn b o q) ?_
      cases z : H b with
      | none => rfl
      | some u =>
        rcases hA b (by rw [z]; simp) with e | e
        · rw [e] at z q
          rw [hK (by rw [z]; simp)] at q
          cases q
        · rw [nT b e] at q
          cases q
    have lim2 : (hidT s1.heap H).NoLimit := by
      obtain ⟨mc, q1, q2⟩ := lim
      exact ⟨mc, ns2 q1, q2⟩
    have tb : ∀ p ∈ ts, LamX.TabB (hidT s1.heap H) mg p.1 p.2 := fun p hp => by
      have hp2 : p.2 ∈ ts.map (·.2) := List.mem_map_of_mem hp
      have hTp := hT p.2 hp2
      refine ⟨?_, ?_, fun z => ?_⟩
      · obtain ⟨o, us, file, tf, flags, tg, inF, text, tt, e1, r1, r2, r3, rest⟩ := hC p hp
        exact ⟨o, us, file, tf, flags, tg, inF, text, tt, gg e1 (fun ws m z => by rw [r2] at z; cases z) (fun z => by rw [r2] at z; cases z; simp at r3), r1, r2, r3, rest⟩
      · obtain ⟨bm, ob, b1, b2, b3, b4, b5, b6⟩ := hbm
        have nG : bm ≠ mainGlobals := fun z => by
          obtain ⟨o, es, ep, e, d, _⟩ := hns
          rw [z, e] at b3
          cases b3
          rw [d] at b6
          cases b6
        have nP : bm ≠ p.2 := fun z => by
          rw [z, hTp] at b3
          cases b3
          cases b6
        exact ⟨bm, ob, b1, b2, nG, nP, gg b3 (fun ws m z => by rw [b6] at z; cases z) (fun z => by rw [b6] at z; cases z), b4, b5, b6⟩
      · obtain ⟨o, es, ep, e, d, _⟩ := hns
        rw [z, hTp] at e
        cases e
        cases d
    have e0 : Env0 P w K mg (hidT s1.heap H) callerA [] s1 H :=
      { frames := rfl
        mod := ⟨kb, ns2 hns, ⟨mb, ns2 hb, hbb⟩, lim2⟩
        bs := fun b o q => of_hidT q
        bsz := Nat.le_of_eq (hidT_size _ _)
        funs := trivial
        frf := fun b hb => absurd (show b ∈ ([] : List Addr) from hb) (by simp)
        hok := hok
        bare := .of_eq gens }
    refine codeAny_mono ((F _ kb (ns2 hns) tb).go callerA [] s1 H ⟨[.ref a], []⟩ [.ref a] [.ref a] _ _ rfl room e0 (bnd s1 (.ref a)) (.cons rfl .nil) (want H hHT hS)) fun r s2 h => ?_
    cases r with
    | error z => exact (show False from h).elim
    | ok fl =>
      cases fl with
      | next => exact (show False from h).elim
      | brk => exact (show False from h).elim
      | cont => exact (show False from h).elim
      | ret u =>
        obtain ⟨v, H2, os, bare, un, hok2, rel, q⟩ := h
        have q1 : v = .bl true := q
        subst q1
        obtain rfl : u = Value.bool true := rel
        have old : ∀ b o, b ∉ ts.map (·.2) → s1.heap.get? b = some o → s2.heap.get? b = some o := fun b o nb z => by
          rcases hO b nb with y | ⟨ob, xs, n⟩
          · exact un.keep b o z y (fun m => absurd (show b ∈ ([] : List Addr) from m) (by simp)) (by simp)
          · have n2 := un.frzs b ob _ n
            have i1 := (hok b _ n).1
            have i2 := (hok2 b _ n2).1
            rw [z] at i1
            cases i1
            exact i2
        have htab : ∀ b ∈ ts.map (·.2), ∃ more : Array Value, s2.heap.get? b = some { cls := .none, data := .fields (#[] ++ more) } := fun b hb => by
          obtain ⟨more, z⟩ := un.tbls b #[] (hHT b hb)
          exact ⟨more, hok2 b _ z⟩
        refine ⟨rfl, ⟨fun b o e => ?_, fun b o e => ?_⟩, os, bare⟩
        · by_cases hb : b ∈ ts.map (·.2)
          · obtain ⟨more, hm⟩ := htab b hb
            rw [hT b hb] at e
            cases e
            obtain ⟨p, hp, rfl⟩ := List.mem_map.mp hb
            exact .inr (.inl ⟨((hC p hp).tab (hT _ hb)).isCodeTable, rfl, #[], more, rfl, hm⟩)
          · exact .inl (old b o hb e)
        · by_cases hb : b ∈ ts.map (·.2)
          · obtain ⟨more, hm⟩ := htab b hb
            exact ⟨_, hm⟩
          · exact ⟨o, old b o hb e⟩
  cases hk : K.lookup a with
  | some o =>
    have q := KIn a o hk
    rw [ha] at q
    cases q
    refine main (fun b => if b ∈ ts.map (·.2) then some (.tbl #[]) else none) (fun b hb => if_pos hb) (fun b nb => .inl (if_neg nb)) (.inr ⟨_, vs.toArray, _, hk, rfl, rfl, rfl, by rw [List.size_toArray, lenV]; exact hl, by simpa using rv⟩) (fun b u z => ?_) (fun b z => ?_) fun z => absurd (if_neg aT) z
    · by_cases hb : b ∈ ts.map (·.2)
      · have z2 := (if_pos hb).symm.trans z
        cases z2
        exact hT b hb
      · have z2 := (if_neg hb).symm.trans z
        cases z2
    · by_cases hb : b ∈ ts.map (·.2)
      · exact .inr hb
      · exact absurd (if_neg hb) z
  | none =>
    refine main (fun b => if b ∈ ts.map (·.2) then some (.tbl #[]) else if b = a then some (.frz { cls := .type "list", data := .seq vs.toArray } (.lst (ns.map V.int))) else none) (fun b hb => if_pos hb) (fun b nb => ?_) (.inl (.inr ⟨_, (if_neg aT).trans (if_pos rfl)⟩)) (fun b u z => ?_) (fun b z => ?_) fun _ => hk
    · by_cases hb : b = a
      · exact .inr ⟨_, _, (if_neg nb).trans (if_pos hb)⟩
      · exact .inl ((if_neg nb).trans (if_neg hb))
    · by_cases hb : b ∈ ts.map (·.2)
      · have z2 := (if_pos hb).symm.trans z
        cases z2
        exact hT b hb
      · have z1 := (if_neg hb).symm.trans z
        by_cases hb2 : b = a
        · have z2 := (if_pos hb2).symm.trans z1
          cases z2
          rw [hb2]
          exact ⟨ha, by rw [List.length_map]; exact hl, vs, _, rv, ha⟩
        · have z2 := (if_neg hb2).symm.trans z1
          cases z2
    · by_cases hb : b ∈ ts.map (·.2)
      · exact .inr hb
      · by_cases hb2 : b = a
        · exact .inl hb2
        · exact absurd ((if_neg hb).trans (if_neg hb2)) z
end
/-- .. for a list of (code object, table, name of the lambda) -/
theorem walkGTs {l : PySem.W.OpenLaw} {n k : Nat} {q : Program} {loose : List Str} {XP : (Str → Option Value) → Heap → Prop} {YP : World → Heap → Prop} {d : DefRec} {K : Params → PySem.W.Frag} {sp : KX → Sp} {x : Str} (hn : l.most = some n) (hn2 : n ≤ sizeLine) (hdf : d.params.defaults = []) (room : Room k callerA)
    (hY : ∀ (w : World) (h : Heap), YP w h → (K w.params).In h)
    (F : ∀ (w : World) (mg : Str → Option Value) (fa : Addr) (h : Heap), YP w h → (K w.params).In h → h.Ns mainGlobals mg → mg d.name = some (.ref fa) →
      ∃ (fd : FuncData) (ts : List (Addr × Addr × Str)), (∀ p ∈ ts, h.get? p.2.1 = some { cls := .none, data := .fields #[] } ∧ (K w.params).lookup p.2.1 = none ∧ PySem.W.CodeHd h p.1 p.2.1) ∧ (∀ (s : Shared) (u : Value), BindsTo s fd ⟨[u], []⟩ [(x, u)]) ∧
        ∀ base : Heap, (K w.params).In base → base.Ns mainGlobals mg → (∀ p ∈ ts, LamX.TabB base mg p.1 p.2.1) → FnG l.prog w (K w.params) mg base k fa fd [x] (sp ⟨K w.params, ts.map (·.2)⟩))
    (want : ∀ (K : KX) (H : Hp) (a : Addr) (ns : List Int), ns.length ≤ n → Tb K H → SqL K H a (ns.map V.int) → sp K [.ref a] H (fun v _ => v = .bl true) fun _ _ _ => False) :
    PySem.W.WalkO q loose XP YP l.row.toRowW d [] (fun f vs => PySem.call f vs) := by
  refine Att.attach_call hn hdf fun w s0 s1 mg mb fa o pm cd doc a vs ns Gr Y ho hd hcd hmg hobj hints hlen hg => ?_
  have KIn := hY w _ Y
  obtain ⟨fd, ts, h1, hb, hF⟩ := F w mg fa _ Y KIn Gr.T.g hmg
  have mm : ∀ b ∈ (ts.map fun p => (p.1, p.2.1)).map (·.2), ∃ p ∈ ts, b = p.2.1 := fun b hb => by
    rw [List.map_map] at hb
    obtain ⟨p, hp, rfl⟩ := List.mem_map.mp hb
    exact ⟨p, hp, rfl⟩
  refine lawGTs (ts := ts.map fun p => (p.1, p.2.1)) KIn Gr.T.g Gr.T.b Gr.T.builtins Gr.T.nolimit hg (fun b hb => ?_) (fun b hb => ?_) (fun p hp => ?_) Gr.T.bmain hobj hints (Nat.le_trans hlen hn2) room (fun base b1 b2 b3 => hF base b1 b2 fun p hp => b3 (p.1, p.2.1) (List.mem_map.mpr ⟨p, hp, rfl⟩)) hb fun H hH hS => ?_
  · obtain ⟨p, hp, rfl⟩ := mm b hb
    exact (h1 p hp).1
  · obtain ⟨p, hp, rfl⟩ := mm b hb
    exact (h1 p hp).2.1
  · obtain ⟨p, hq, rfl⟩ := List.mem_map.mp hp
    exact (h1 p hq).2.2
  · refine want ⟨K w.params, ts.map (·.2)⟩ H a ns hlen (fun p hp => ?_) hS
    obtain ⟨p, hq, rfl⟩ := List.mem_map.mp hp
    exact LamX.TabS.nil (hH p.2.1 (by rw [List.map_map]; exact List.mem_map.mpr ⟨p, hq, rfl⟩))
end Sb

set_option Elab.async false
set_option linter.all false
set_option maxRecDepth 100000
set_option autoImplicit false
namespace Sb
open PySem PySem.Spec PyProof.Rows L2 TL
set_option maxHeartbeats 4000000 in
theorem all_mk {l : PySem.W.OpenLaw} {w : World} {K : KX} {h : Heap} {mg : Str → Option Value} {fa aS aO : Addr} (X : K.fr.In h) (G : h.Ns mainGlobals mg) (hfa : mg "law" = some (.ref fa))
    {od__law_source an__law_source : Option Addr} {sl__law_source : Array (Option Value)} {oc__law_source kV__law_source dc__law_source pm__law_source cd__law_source ct__law_source : Value} {f__law_source : Addr}
    {od__law_take an__law_take : Option Addr} {sl__law_take : Array (Option Value)} {oc__law_take kV__law_take dc__law_take pm__law_take cd__law_take ct__law_take : Value} {f__law_take : Addr}
    {od__law_odd an__law_odd : Option Addr} {sl__law_odd : Array (Option Value)} {oc__law_odd kV__law_odd dc__law_odd pm__law_odd cd__law_odd ct__law_odd : Value} {f__law_odd : Addr}
    {od__law_sorts an__law_sorts : Option Addr} {sl__law_sorts : Array (Option Value)} {oc__law_sorts kV__law_sorts dc__law_sorts pm__law_sorts cd__law_sorts ct__law_sorts : Value} {f__law_sorts : Addr}
    {od__law_is_right an__law_is_right : Option Addr} {sl__law_is_right : Array (Option Value)} {oc__law_is_right kV__law_is_right dc__law_is_right pm__law_is_right cd__law_is_right ct__law_is_right : Value} {f__law_is_right : Addr}
    {od__law_placed an__law_placed : Option Addr} {sl__law_placed : Array (Option Value)} {oc__law_placed kV__law_placed dc__law_placed pm__law_placed cd__law_placed ct__law_placed : Value} {f__law_placed : Addr}
    {od__law_named an__law_named : Option Addr} {sl__law_named : Array (Option Value)} {oc__law_named kV__law_named dc__law_named pm__law_named cd__law_named ct__law_named : Value} {f__law_named : Addr}
    {od__law_right an__law_right : Option Addr} {sl__law_right : Array (Option Value)} {oc__law_right kV__law_right dc__law_right pm__law_right cd__law_right ct__law_right : Value} {f__law_right : Addr}
    {od_law an_law : Option Addr} {sl_law : Array (Option Value)} {oc_law kV_law dc_law pm_law cd_law ct_law : Value} {f_law : Addr}
    {tk_MOST_SEATS : Tok}
    {tk_MOST_LINES : Tok}
    {tk_MOST_ROWS : Tok}
    {tk_MOST_PARTS : Tok}
    {tk_MOST_RING : Tok}
    {tk_MOST_INTEGER : Tok}
    {tk_MOST_CHANGES : Tok}
    {D_BadValue : Addr}
    {D_BadName : Addr}
    {D_NoAnswer : Addr}
    {D_InvalidText : Addr}
    {D_InvalidName : Addr}
    {D_InvalidNumber : Addr}
    {D_InvalidQuestion : Addr}
    {D_InvalidCase : Addr}
    {D_InvalidChange : Addr}
    {D_InvalidWish : Addr}
    {D_InvalidIndex : Addr}
    {D_NotARule : Addr}
    {D_OtherSeats : Addr}
    {D_InvalidSeats : Addr}
    {D_InvalidLines : Addr}
    {D_InvalidRows : Addr}
    {D_InvalidBids : Addr}
    {D_InvalidChanges : Addr}
    {D_UnknownName : Addr}
    {D_InUse : Addr}
    {D_NothingToUndo : Addr}
    {D_Broken : Addr}
    {y_nm_InvalidText y_q_InvalidText : Str} {y_N_InvalidText : Addr} {y_bs_InvalidText y_bm_InvalidText : List Value} {y_sn_InvalidText : List Str} {y_sub_InvalidText : List Value} {y_ab_InvalidText : Bool} {y_col_InvalidText : Option Bool} {y_dd_InvalidText : Option Addr} {y_k0_InvalidText y_k1_InvalidText y_k2_InvalidText y_k3_InvalidText y_k5_InvalidText : Option Value}
    {od_InvalidText___init__ an_InvalidText___init__ : Option Addr} {sl_InvalidText___init__ : Array (Option Value)} {oc_InvalidText___init__ kV_InvalidText___init__ dc_InvalidText___init__ pm_InvalidText___init__ cd_InvalidText___init__ ct_InvalidText___init__ : Value} {f_InvalidText___init__ : Addr}
    {y_nm_InvalidName y_q_InvalidName : Str} {y_N_InvalidName : Addr} {y_bs_InvalidName y_bm_InvalidName : List Value} {y_sn_InvalidName : List Str} {y_sub_InvalidName : List Value} {y_ab_InvalidName : Bool} {y_col_InvalidName : Option Bool} {y_dd_InvalidName : Option Addr} {y_k0_InvalidName y_k1_InvalidName y_k2_InvalidName y_k3_InvalidName y_k5_InvalidName : Option Value}
    {od_InvalidName___init__ an_InvalidName___init__ : Option Addr} {sl_InvalidName___init__ : Array (Option Value)} {oc_InvalidName___init__ kV_InvalidName___init__ dc_InvalidName___init__ pm_InvalidName___init__ cd_InvalidName___init__ ct_InvalidName___init__ : Value} {f_InvalidName___init__ : Addr}
    {y_nm_InvalidNumber y_q_InvalidNumber : Str} {y_N_InvalidNumber : Addr} {y_bs_InvalidNumber y_bm_InvalidNumber : List Value} {y_sn_InvalidNumber : List Str} {y_sub_InvalidNumber : List Value} {y_ab_InvalidNumber : Bool} {y_col_InvalidNumber : Option Bool} {y_dd_InvalidNumber : Option Addr} {y_k0_InvalidNumber y_k1_InvalidNumber y_k2_InvalidNumber y_k3_InvalidNumber y_k5_InvalidNumber : Option Value}
    {od_InvalidNumber___init__ an_InvalidNumber___init__ : Option Addr} {sl_InvalidNumber___init__ : Array (Option Value)} {oc_InvalidNumber___init__ kV_InvalidNumber___init__ dc_InvalidNumber___init__ pm_InvalidNumber___init__ cd_InvalidNumber___init__ ct_InvalidNumber___init__ : Value} {f_InvalidNumber___init__ : Addr}
    {y_nm_InvalidQuestion y_q_InvalidQuestion : Str} {y_N_InvalidQuestion : Addr} {y_bs_InvalidQuestion y_bm_InvalidQuestion : List Value} {y_sn_InvalidQuestion : List Str} {y_sub_InvalidQuestion : List Value} {y_ab_InvalidQuestion : Bool} {y_col_InvalidQuestion : Option Bool} {y_dd_InvalidQuestion : Option Addr} {y_k0_InvalidQuestion y_k1_InvalidQuestion y_k2_InvalidQuestion y_k3_InvalidQuestion y_k5_InvalidQuestion : Option Value}
    {od_InvalidQuestion___init__ an_InvalidQuestion___init__ : Option Addr} {sl_InvalidQuestion___init__ : Array (Option Value)} {oc_InvalidQuestion___init__ kV_InvalidQuestion___init__ dc_InvalidQuestion___init__ pm_InvalidQuestion___init__ cd_InvalidQuestion___init__ ct_InvalidQuestion___init__ : Value} {f_InvalidQuestion___init__ : Addr}
    {y_nm_InvalidCase y_q_InvalidCase : Str} {y_N_InvalidCase : Addr} {y_bs_InvalidCase y_bm_InvalidCase : List Value} {y_sn_InvalidCase : List Str} {y_sub_InvalidCase : List Value} {y_ab_InvalidCase : Bool} {y_col_InvalidCase : Option Bool} {y_dd_InvalidCase : Option Addr} {y_k0_InvalidCase y_k1_InvalidCase y_k2_InvalidCase y_k3_InvalidCase y_k5_InvalidCase : Option Value}
    {od_InvalidCase___init__ an_InvalidCase___init__ : Option Addr} {sl_InvalidCase___init__ : Array (Option Value)} {oc_InvalidCase___init__ kV_InvalidCase___init__ dc_InvalidCase___init__ pm_InvalidCase___init__ cd_InvalidCase___init__ ct_InvalidCase___init__ : Value} {f_InvalidCase___init__ : Addr}
    {y_nm_InvalidChange y_q_InvalidChange : Str} {y_N_InvalidChange : Addr} {y_bs_InvalidChange y_bm_InvalidChange : List Value} {y_sn_InvalidChange : List Str} {y_sub_InvalidChange : List Value} {y_ab_InvalidChange : Bool} {y_col_InvalidChange : Option Bool} {y_dd_InvalidChange : Option Addr} {y_k0_InvalidChange y_k1_InvalidChange y_k2_InvalidChange y_k3_InvalidChange y_k5_InvalidChange : Option Value}
    {od_InvalidChange___init__ an_InvalidChange___init__ : Option Addr} {sl_InvalidChange___init__ : Array (Option Value)} {oc_InvalidChange___init__ kV_InvalidChange___init__ dc_InvalidChange___init__ pm_InvalidChange___init__ cd_InvalidChange___init__ ct_InvalidChange___init__ : Value} {f_InvalidChange___init__ : Addr}
    {y_nm_InvalidWish y_q_InvalidWish : Str} {y_N_InvalidWish : Addr} {y_bs_InvalidWish y_bm_InvalidWish : List Value} {y_sn_InvalidWish : List Str} {y_sub_InvalidWish : List Value} {y_ab_InvalidWish : Bool} {y_col_InvalidWish : Option Bool} {y_dd_InvalidWish : Option Addr} {y_k0_InvalidWish y_k1_InvalidWish y_k2_InvalidWish y_k3_InvalidWish y_k5_InvalidWish : Option Value}
    {od_InvalidWish___init__ an_InvalidWish___init__ : Option Addr} {sl_InvalidWish___init__ : Array (Option Value)} {oc_InvalidWish___init__ kV_InvalidWish___init__ dc_InvalidWish___init__ pm_InvalidWish___init__ cd_InvalidWish___init__ ct_InvalidWish___init__ : Value} {f_InvalidWish___init__ : Addr}
    {y_nm_InvalidIndex y_q_InvalidIndex : Str} {y_N_InvalidIndex : Addr} {y_bs_InvalidIndex y_bm_InvalidIndex : List Value} {y_sn_InvalidIndex : List Str} {y_sub_InvalidIndex : List Value} {y_ab_InvalidIndex : Bool} {y_col_InvalidIndex : Option Bool} {y_dd_InvalidIndex : Option Addr} {y_k0_InvalidIndex y_k1_InvalidIndex y_k2_InvalidIndex y_k3_InvalidIndex y_k5_InvalidIndex : Option Value}
    {od_InvalidIndex___init__ an_InvalidIndex___init__ : Option Addr} {sl_InvalidIndex___init__ : Array (Option Value)} {oc_InvalidIndex___init__ kV_InvalidIndex___init__ dc_InvalidIndex___init__ pm_InvalidIndex___init__ cd_InvalidIndex___init__ ct_InvalidIndex___init__ : Value} {f_InvalidIndex___init__ : Addr}
    {y_nm_NotARule y_q_NotARule : Str} {y_N_NotARule : Addr} {y_bs_NotARule y_bm_NotARule : List Value} {y_sn_NotARule : List Str} {y_sub_NotARule : List Value} {y_ab_NotARule : Bool} {y_col_NotARule : Option Bool} {y_dd_NotARule : Option Addr} {y_k0_NotARule y_k1_NotARule y_k2_NotARule y_k3_NotARule y_k5_NotARule : Option Value}
    {od_NotARule___init__ an_NotARule___init__ : Option Addr} {sl_NotARule___init__ : Array (Option Value)} {oc_NotARule___init__ kV_NotARule___init__ dc_NotARule___init__ pm_NotARule___init__ cd_NotARule___init__ ct_NotARule___init__ : Value} {f_NotARule___init__ : Addr}
    {y_nm_OtherSeats y_q_OtherSeats : Str} {y_N_OtherSeats : Addr} {y_bs_OtherSeats y_bm_OtherSeats : List Value} {y_sn_OtherSeats : List Str} {y_sub_OtherSeats : List Value} {y_ab_OtherSeats : Bool} {y_col_OtherSeats : Option Bool} {y_dd_OtherSeats : Option Addr} {y_k0_OtherSeats y_k1_OtherSeats y_k2_OtherSeats y_k3_OtherSeats y_k5_OtherSeats : Option Value}
    {od_OtherSeats___init__ an_OtherSeats___init__ : Option Addr} {sl_OtherSeats___init__ : Array (Option Value)} {oc_OtherSeats___init__ kV_OtherSeats___init__ dc_OtherSeats___init__ pm_OtherSeats___init__ cd_OtherSeats___init__ ct_OtherSeats___init__ : Value} {f_OtherSeats___init__ : Addr}
    {y_nm_InvalidSeats y_q_InvalidSeats : Str} {y_N_InvalidSeats : Addr} {y_bs_InvalidSeats y_bm_InvalidSeats : List Value} {y_sn_InvalidSeats : List Str} {y_sub_InvalidSeats : List Value} {y_ab_InvalidSeats : Bool} {y_col_InvalidSeats : Option Bool} {y_dd_InvalidSeats : Option Addr} {y_k0_InvalidSeats y_k1_InvalidSeats y_k2_InvalidSeats y_k3_InvalidSeats y_k5_InvalidSeats : Option Value}
    {od_InvalidSeats___init__ an_InvalidSeats___init__ : Option Addr} {sl_InvalidSeats___init__ : Array (Option Value)} {oc_InvalidSeats___init__ kV_InvalidSeats___init__ dc_InvalidSeats___init__ pm_InvalidSeats___init__ cd_InvalidSeats___init__ ct_InvalidSeats___init__ : Value} {f_InvalidSeats___init__ : Addr}
    {y_nm_InvalidLines y_q_InvalidLines : Str} {y_N_InvalidLines : Addr} {y_bs_InvalidLines y_bm_InvalidLines : List Value} {y_sn_InvalidLines : List Str} {y_sub_InvalidLines : List Value} {y_ab_InvalidLines : Bool} {y_col_InvalidLines : Option Bool} {y_dd_InvalidLines : Option Addr} {y_k0_InvalidLines y_k1_InvalidLines y_k2_InvalidLines y_k3_InvalidLines y_k5_InvalidLines : Option Value}
    {od_InvalidLines___init__ an_InvalidLines___init__ : Option Addr} {sl_InvalidLines___init__ : Array (Option Value)} {oc_InvalidLines___init__ kV_InvalidLines___init__ dc_InvalidLines___init__ pm_InvalidLines___init__ cd_InvalidLines___init__ ct_InvalidLines___init__ : Value} {f_InvalidLines___init__ : Addr}
    {y_nm_InvalidRows y_q_InvalidRows : Str} {y_N_InvalidRows : Addr} {y_bs_InvalidRows y_bm_InvalidRows : List Value} {y_sn_InvalidRows : List Str} {y_sub_InvalidRows : List Value} {y_ab_InvalidRows : Bool} {y_col_InvalidRows : Option Bool} {y_dd_InvalidRows : Option Addr} {y_k0_InvalidRows y_k1_InvalidRows y_k2_InvalidRows y_k3_InvalidRows y_k5_InvalidRows : Option Value}
    {od_InvalidRows___init__ an_InvalidRows___init__ : Option Addr} {sl_InvalidRows___init__ : Array (Option Value)} {oc_InvalidRows___init__ kV_InvalidRows___init__ dc_InvalidRows___init__ pm_InvalidRows___init__ cd_InvalidRows___init__ ct_InvalidRows___init__ : Value} {f_InvalidRows___init__ : Addr}
    {y_nm_InvalidBids y_q_InvalidBids : Str} {y_N_InvalidBids : Addr} {y_bs_InvalidBids y_bm_InvalidBids : List Value} {y_sn_InvalidBids : List Str} {y_sub_InvalidBids : List Value} {y_ab_InvalidBids : Bool} {y_col_InvalidBids : Option Bool} {y_dd_InvalidBids : Option Addr} {y_k0_InvalidBids y_k1_InvalidBids y_k2_InvalidBids y_k3_InvalidBids y_k5_InvalidBids : Option Value}
    {od_InvalidBids___init__ an_InvalidBids___init__ : Option Addr} {sl_InvalidBids___init__ : Array (Option Value)} {oc_InvalidBids___init__ kV_InvalidBids___init__ dc_InvalidBids___init__ pm_InvalidBids___init__ cd_InvalidBids___init__ ct_InvalidBids___init__ : Value} {f_InvalidBids___init__ : Addr}
    {y_nm_InvalidChanges y_q_InvalidChanges : Str} {y_N_InvalidChanges : Addr} {y_bs_InvalidChanges y_bm_InvalidChanges : List Value} {y_sn_InvalidChanges : List Str} {y_sub_InvalidChanges : List Value} {y_ab_InvalidChanges : Bool} {y_col_InvalidChanges : Option Bool} {y_dd_InvalidChanges : Option Addr} {y_k0_InvalidChanges y_k1_InvalidChanges y_k2_InvalidChanges y_k3_InvalidChanges y_k5_InvalidChanges : Option Value}
    {od_InvalidChanges___init__ an_InvalidChanges___init__ : Option Addr} {sl_InvalidChanges___init__ : Array (Option Value)} {oc_InvalidChanges___init__ kV_InvalidChanges___init__ dc_InvalidChanges___init__ pm_InvalidChanges___init__ cd_InvalidChanges___init__ ct_InvalidChanges___init__ : Value} {f_InvalidChanges___init__ : Addr}
    {y_nm_UnknownName y_q_UnknownName : Str} {y_N_UnknownName : Addr} {y_bs_UnknownName y_bm_UnknownName : List Value} {y_sn_UnknownName : List Str} {y_sub_UnknownName : List Value} {y_ab_UnknownName : Bool} {y_col_UnknownName : Option Bool} {y_dd_UnknownName : Option Addr} {y_k0_UnknownName y_k1_UnknownName y_k2_UnknownName y_k3_UnknownName y_k5_UnknownName : Option Value}
    {od_UnknownName___init__ an_UnknownName___init__ : Option Addr} {sl_UnknownName___init__ : Array (Option Value)} {oc_UnknownName___init__ kV_UnknownName___init__ dc_UnknownName___init__ pm_UnknownName___init__ cd_UnknownName___init__ ct_UnknownName___init__ : Value} {f_UnknownName___init__ : Addr}
    {y_nm_InUse y_q_InUse : Str} {y_N_InUse : Addr} {y_bs_InUse y_bm_InUse : List Value} {y_sn_InUse : List Str} {y_sub_InUse : List Value} {y_ab_InUse : Bool} {y_col_InUse : Option Bool} {y_dd_InUse : Option Addr} {y_k0_InUse y_k1_InUse y_k2_InUse y_k3_InUse y_k5_InUse : Option Value}
    {od_InUse___init__ an_InUse___init__ : Option Addr} {sl_InUse___init__ : Array (Option Value)} {oc_InUse___init__ kV_InUse___init__ dc_InUse___init__ pm_InUse___init__ cd_InUse___init__ ct_InUse___init__ : Value} {f_InUse___init__ : Addr}
    {y_nm_Broken y_q_Broken : Str} {y_N_Broken : Addr} {y_bs_Broken y_bm_Broken : List Value} {y_sn_Broken : List Str} {y_sub_Broken : List Value} {y_ab_Broken : Bool} {y_col_Broken : Option Bool} {y_dd_Broken : Option Addr} {y_k0_Broken y_k1_Broken y_k2_Broken y_k3_Broken y_k5_Broken : Option Value}
    {od_Broken___init__ an_Broken___init__ : Option Addr} {sl_Broken___init__ : Array (Option Value)} {oc_Broken___init__ kV_Broken___init__ dc_Broken___init__ pm_Broken___init__ cd_Broken___init__ ct_Broken___init__ : Value} {f_Broken___init__ : Addr}
    (a__law_source : PySem.W.nsIn K mainGlobals "_law_source" = some (some (.ref f__law_source)))
    (l__law_source : K.fr.lookup f__law_source = some ⟨oc__law_source, od__law_source, .func (PySem.W.fnOf "_law_source" "_law_source" (defArgs s__law_source) (defBody s__law_source) (defScope s__law_source) .none kV__law_source dc__law_source pm__law_source an__law_source cd__law_source ct__law_source), sl__law_source⟩)
    (c__law_source : PySem.W.codeIn K cd__law_source "_law_source" = true)
    (k__law_source : PySem.W.keepIn K (.ref f__law_source) = true)
    (a__law_take : PySem.W.nsIn K mainGlobals "_law_take" = some (some (.ref f__law_take)))
    (l__law_take : K.fr.lookup f__law_take = some ⟨oc__law_take, od__law_take, .func (PySem.W.fnOf "_law_take" "_law_take" (defArgs s__law_take) (defBody s__law_take) (defScope s__law_take) .none kV__law_take dc__law_take pm__law_take an__law_take cd__law_take ct__law_take), sl__law_take⟩)
    (c__law_take : PySem.W.codeIn K cd__law_take "_law_take" = true)
    (k__law_take : PySem.W.keepIn K (.ref f__law_take) = true)
    (a__law_odd : PySem.W.nsIn K mainGlobals "_law_odd" = some (some (.ref f__law_odd)))
    (l__law_odd : K.fr.lookup f__law_odd = some ⟨oc__law_odd, od__law_odd, .func (PySem.W.fnOf "_law_odd" "_law_odd" (defArgs s__law_odd) (defBody s__law_odd) (defScope s__law_odd) .none kV__law_odd dc__law_odd pm__law_odd an__law_odd cd__law_odd ct__law_odd), sl__law_odd⟩)
    (c__law_odd : PySem.W.codeIn K cd__law_odd "_law_odd" = true)
    (k__law_odd : PySem.W.keepIn K (.ref f__law_odd) = true)
    (a__law_sorts : PySem.W.nsIn K mainGlobals "_law_sorts" = some (some (.ref f__law_sorts)))
    (l__law_sorts : K.fr.lookup f__law_sorts = some ⟨oc__law_sorts, od__law_sorts, .func (PySem.W.fnOf "_law_sorts" "_law_sorts" (defArgs s__law_sorts) (defBody s__law_sorts) (defScope s__law_sorts) .none kV__law_sorts dc__law_sorts pm__law_sorts an__law_sorts cd__law_sorts ct__law_sorts), sl__law_sorts⟩)
    (c__law_sorts : PySem.W.codeIn K cd__law_sorts "_law_sorts" = true)
    (k__law_sorts : PySem.W.keepIn K (.ref f__law_sorts) = true)
    (a__law_is_right : PySem.W.nsIn K mainGlobals "_law_is_right" = some (some (.ref f__law_is_right)))
    (l__law_is_right : K.fr.lookup f__law_is_right = some ⟨oc__law_is_right, od__law_is_right, .func (PySem.W.fnOf "_law_is_right" "_law_is_right" (defArgs s__law_is_right) (defBody s__law_is_right) (defScope s__law_is_right) .none kV__law_is_right dc__law_is_right pm__law_is_right an__law_is_right cd__law_is_right ct__law_is_right), sl__law_is_right⟩)
    (c__law_is_right : PySem.W.codeIn K cd__law_is_right "_law_is_right" = true)
    (k__law_is_right : PySem.W.keepIn K (.ref f__law_is_right) = true)
    (a__law_placed : PySem.W.nsIn K mainGlobals "_law_placed" = some (some (.ref f__law_placed)))
    (l__law_placed : K.fr.lookup f__law_placed = some ⟨oc__law_placed, od__law_placed, .func (PySem.W.fnOf "_law_placed" "_law_placed" (defArgs s__law_placed) (defBody s__law_placed) (defScope s__law_placed) .none kV__law_placed dc__law_placed pm__law_placed an__law_placed cd__law_placed ct__law_placed), sl__law_placed⟩)
    (c__law_placed : PySem.W.codeIn K cd__law_placed "_law_placed" = true)
    (k__law_placed : PySem.W.keepIn K (.ref f__law_placed) = true)
    (a__law_named : PySem.W.nsIn K mainGlobals "_law_named" = some (some (.ref f__law_named)))
    (l__law_named : K.fr.lookup f__law_named = some ⟨oc__law_named, od__law_named, .func (PySem.W.fnOf "_law_named" "_law_named" (defArgs s__law_named) (defBody s__law_named) (defScope s__law_named) .none kV__law_named dc__law_named pm__law_named an__law_named cd__law_named ct__law_named), sl__law_named⟩)
    (c__law_named : PySem.W.codeIn K cd__law_named "_law_named" = true)
    (k__law_named : PySem.W.keepIn K (.ref f__law_named) = true)
    (a__law_right : PySem.W.nsIn K mainGlobals "_law_right" = some (some (.ref f__law_right)))
    (l__law_right : K.fr.lookup f__law_right = some ⟨oc__law_right, od__law_right, .func (PySem.W.fnOf "_law_right" "_law_right" (defArgs s__law_right) (defBody s__law_right) (defScope s__law_right) .none kV__law_right dc__law_right pm__law_right an__law_right cd__law_right ct__law_right), sl__law_right⟩)
    (c__law_right : PySem.W.codeIn K cd__law_right "_law_right" = true)
    (k__law_right : PySem.W.keepIn K (.ref f__law_right) = true)
    (a_law : PySem.W.nsIn K mainGlobals "law" = some (some (.ref f_law)))
    (l_law : K.fr.lookup f_law = some ⟨oc_law, od_law, .func (PySem.W.fnOf "law" "law" (defArgs s_law) (defBody s_law) (defScope s_law) .none kV_law dc_law pm_law an_law cd_law ct_law), sl_law⟩)
    (c_law : PySem.W.codeIn K cd_law "law" = true)
    (k_law : PySem.W.keepIn K (.ref f_law) = true)
    (z_isinstance : PySem.W.nsIn K mainGlobals "isinstance" = some none)
    (z_int : PySem.W.nsIn K mainGlobals "int" = some none)
    (z_bool : PySem.W.nsIn K mainGlobals "bool" = some none)
    (z_str : PySem.W.nsIn K mainGlobals "str" = some none)
    (z_tuple : PySem.W.nsIn K mainGlobals "tuple" = some none)
    (z_list : PySem.W.nsIn K mainGlobals "list" = some none)
    (z_len : PySem.W.nsIn K mainGlobals "len" = some none)
    (z_all : PySem.W.nsIn K mainGlobals "all" = some none)
    (z_range : PySem.W.nsIn K mainGlobals "range" = some none)
    (z_enumerate : PySem.W.nsIn K mainGlobals "enumerate" = some none)
    (z_zip : PySem.W.nsIn K mainGlobals "zip" = some none)
    (z_dict : PySem.W.nsIn K mainGlobals "dict" = some none)
    (z_abs : PySem.W.nsIn K mainGlobals "abs" = some none)
    (z_max : PySem.W.nsIn K mainGlobals "max" = some none)
    (z_min : PySem.W.nsIn K mainGlobals "min" = some none)
    (z_divmod : PySem.W.nsIn K mainGlobals "divmod" = some none)
    (z_repr : PySem.W.nsIn K mainGlobals "repr" = some none)
    (z_ValueError : PySem.W.nsIn K mainGlobals "ValueError" = some none)
    (z_LookupError : PySem.W.nsIn K mainGlobals "LookupError" = some none)
    (z_ArithmeticError : PySem.W.nsIn K mainGlobals "ArithmeticError" = some none)
    (v_MOST_SEATS : PySem.W.nsIn K mainGlobals "MOST_SEATS" = some (some (.int 4 tk_MOST_SEATS)))
    (v_MOST_LINES : PySem.W.nsIn K mainGlobals "MOST_LINES" = some (some (.int 8 tk_MOST_LINES)))
    (v_MOST_ROWS : PySem.W.nsIn K mainGlobals "MOST_ROWS" = some (some (.int 6 tk_MOST_ROWS)))
    (v_MOST_PARTS : PySem.W.nsIn K mainGlobals "MOST_PARTS" = some (some (.int 6 tk_MOST_PARTS)))
    (v_MOST_RING : PySem.W.nsIn K mainGlobals "MOST_RING" = some (some (.int 3 tk_MOST_RING)))
    (v_MOST_INTEGER : PySem.W.nsIn K mainGlobals "MOST_INTEGER" = some (some (.int 1000000000000 tk_MOST_INTEGER)))
    (v_MOST_CHANGES : PySem.W.nsIn K mainGlobals "MOST_CHANGES" = some (some (.int 6 tk_MOST_CHANGES)))
    (xq_hn : PySem.W.specialIn K (.builtin "object.__class__") "__get__" = some (some (.builtin "getset_descriptor.__get__")))
    (xq_ht : PySem.W.takesIn K (.builtin "object.__class__") = some true)
    (xa_BadValue : PySem.W.nsIn K mainGlobals "BadValue" = some (some (.ref D_BadValue)))
    (xa_BadName : PySem.W.nsIn K mainGlobals "BadName" = some (some (.ref D_BadName)))
    (xa_NoAnswer : PySem.W.nsIn K mainGlobals "NoAnswer" = some (some (.ref D_NoAnswer)))
    (xa_InvalidText : PySem.W.nsIn K mainGlobals "InvalidText" = some (some (.ref D_InvalidText)))
    (xa_InvalidName : PySem.W.nsIn K mainGlobals "InvalidName" = some (some (.ref D_InvalidName)))
    (xa_InvalidNumber : PySem.W.nsIn K mainGlobals "InvalidNumber" = some (some (.ref D_InvalidNumber)))
    (xa_InvalidQuestion : PySem.W.nsIn K mainGlobals "InvalidQuestion" = some (some (.ref D_InvalidQuestion)))
    (xa_InvalidCase : PySem.W.nsIn K mainGlobals "InvalidCase" = some (some (.ref D_InvalidCase)))
    (xa_InvalidChange : PySem.W.nsIn K mainGlobals "InvalidChange" = some (some (.ref D_InvalidChange)))
    (xa_InvalidWish : PySem.W.nsIn K mainGlobals "InvalidWish" = some (some (.ref D_InvalidWish)))
    (xa_InvalidIndex : PySem.W.nsIn K mainGlobals "InvalidIndex" = some (some (.ref D_InvalidIndex)))
    (xa_NotARule : PySem.W.nsIn K mainGlobals "NotARule" = some (some (.ref D_NotARule)))
    (xa_OtherSeats : PySem.W.nsIn K mainGlobals "OtherSeats" = some (some (.ref D_OtherSeats)))
    (xa_InvalidSeats : PySem.W.nsIn K mainGlobals "InvalidSeats" = some (some (.ref D_InvalidSeats)))
    (xa_InvalidLines : PySem.W.nsIn K mainGlobals "InvalidLines" = some (some (.ref D_InvalidLines)))
    (xa_InvalidRows : PySem.W.nsIn K mainGlobals "InvalidRows" = some (some (.ref D_InvalidRows)))
    (xa_InvalidBids : PySem.W.nsIn K mainGlobals "InvalidBids" = some (some (.ref D_InvalidBids)))
    (xa_InvalidChanges : PySem.W.nsIn K mainGlobals "InvalidChanges" = some (some (.ref D_InvalidChanges)))
    (xa_UnknownName : PySem.W.nsIn K mainGlobals "UnknownName" = some (some (.ref D_UnknownName)))
    (xa_InUse : PySem.W.nsIn K mainGlobals "InUse" = some (some (.ref D_InUse)))
    (xa_NothingToUndo : PySem.W.nsIn K mainGlobals "NothingToUndo" = some (some (.ref D_NothingToUndo)))
    (xa_Broken : PySem.W.nsIn K mainGlobals "Broken" = some (some (.ref D_Broken)))
    (xi_InvalidText : PySem.W.findIn K (.ref D_InvalidText) "index" = some none)
    (xg_InvalidText : PySem.W.findIn K (.ref D_InvalidText) "given" = some none)
    (xga_InvalidText : PySem.W.findIn K (.ref D_InvalidText) "__getattribute__" = some (some (.builtin "BaseException.__getattribute__")))
    (xgg_InvalidText : PySem.W.findIn K (.ref D_InvalidText) "__getattr__" = some none)
    (xcl_InvalidText : PySem.W.findIn K (.ref D_InvalidText) "__class__" = some (some (.builtin "object.__class__")))
    (xe_InvalidText : PySem.W.subIn K (.ref D_InvalidText) (.type "BaseException") = some true)
    (xk_InvalidText : PySem.W.keepIn K (.ref D_InvalidText) = true)
    (xhd_InvalidText : PySem.W.hasDictIn K D_InvalidText = true)
    (xmo_InvalidText : PySem.W.mroIn K D_InvalidText (.type "object") = some true)
    (xc_InvalidText : K.fr.lookup D_InvalidText = some (excClassObj y_nm_InvalidText y_q_InvalidText D_InvalidText y_N_InvalidText y_bs_InvalidText y_bm_InvalidText true y_sn_InvalidText y_sub_InvalidText y_ab_InvalidText y_col_InvalidText y_dd_InvalidText y_k0_InvalidText y_k1_InvalidText y_k2_InvalidText y_k3_InvalidText y_k5_InvalidText "ValueError.__new__"))
    (xr_InvalidText : PySem.HandSPX.refsVE y_bm_InvalidText = true)
    (xs_InvalidText : PySem.W.findIn K (.ref D_InvalidText) "__setattr__" = some (some (.builtin "object.__setattr__")))
    (xt_InvalidText : PySem.W.typeIn K (.ref D_InvalidText) = some (.type "type"))
    (a_InvalidText___init__ : PySem.W.findIn K (.ref D_InvalidText) "__init__" = some (some (.ref f_InvalidText___init__)))
    (i_InvalidText___init__ : PySem.W.typeIn K (.ref f_InvalidText___init__) = some (.type "function"))
    (l_InvalidText___init__ : K.fr.lookup f_InvalidText___init__ = some ⟨oc_InvalidText___init__, od_InvalidText___init__, .func (PySem.W.fnOf "__init__" "InvalidText.__init__" (defArgs s_InvalidText___init__) (defBody s_InvalidText___init__) (defScope s_InvalidText___init__) .none kV_InvalidText___init__ dc_InvalidText___init__ pm_InvalidText___init__ an_InvalidText___init__ cd_InvalidText___init__ ct_InvalidText___init__), sl_InvalidText___init__⟩)
    (c_InvalidText___init__ : PySem.W.codeIn K cd_InvalidText___init__ "InvalidText.__init__" = true)
    (k_InvalidText___init__ : PySem.W.keepIn K (.ref f_InvalidText___init__) = true)
    (xi_InvalidName : PySem.W.findIn K (.ref D_InvalidName) "index" = some none)
    (xg_InvalidName : PySem.W.findIn K (.ref D_InvalidName) "given" = some none)
    (xga_InvalidName : PySem.W.findIn K (.ref D_InvalidName) "__getattribute__" = some (some (.builtin "BaseException.__getattribute__")))
    (xgg_InvalidName : PySem.W.findIn K (.ref D_InvalidName) "__getattr__" = some none)
    (xcl_InvalidName : PySem.W.findIn K (.ref D_InvalidName) "__class__" = some (some (.builtin "object.__class__")))
    (xe_InvalidName : PySem.W.subIn K (.ref D_InvalidName) (.type "BaseException") = some true)
    (xk_InvalidName : PySem.W.keepIn K (.ref D_InvalidName) = true)
    (xhd_InvalidName : PySem.W.hasDictIn K D_InvalidName = true)
    (xmo_InvalidName : PySem.W.mroIn K D_InvalidName (.type "object") = some true)
    (xc_InvalidName : K.fr.lookup D_InvalidName = some (excClassObj y_nm_InvalidName y_q_InvalidName D_InvalidName y_N_InvalidName y_bs_InvalidName y_bm_InvalidName true y_sn_InvalidName y_sub_InvalidName y_ab_InvalidName y_col_InvalidName y_dd_InvalidName y_k0_InvalidName y_k1_InvalidName y_k2_InvalidName y_k3_InvalidName y_k5_InvalidName "ValueError.__new__"))
    (xr_InvalidName : PySem.HandSPX.refsVE y_bm_InvalidName = true)
    (xs_InvalidName : PySem.W.findIn K (.ref D_InvalidName) "__setattr__" = some (some (.builtin "object.__setattr__")))
    (xt_InvalidName : PySem.W.typeIn K (.ref D_InvalidName) = some (.type "type"))
    (a_InvalidName___init__ : PySem.W.findIn K (.ref D_InvalidName) "__init__" = some (some (.ref f_InvalidName___init__)))
    (i_InvalidName___init__ : PySem.W.typeIn K (.ref f_InvalidName___init__) = some (.type "function"))
    (l_InvalidName___init__ : K.fr.lookup f_InvalidName___init__ = some ⟨oc_InvalidName___init__, od_InvalidName___init__, .func (PySem.W.fnOf "__init__" "InvalidName.__init__" (defArgs s_InvalidName___init__) (defBody s_InvalidName___init__) (defScope s_InvalidName___init__) .none kV_InvalidName___init__ dc_InvalidName___init__ pm_InvalidName___init__ an_InvalidName___init__ cd_InvalidName___init__ ct_InvalidName___init__), sl_InvalidName___init__⟩)
    (c_InvalidName___init__ : PySem.W.codeIn K cd_InvalidName___init__ "InvalidName.__init__" = true)
    (k_InvalidName___init__ : PySem.W.keepIn K (.ref f_InvalidName___init__) = true)
    (xi_InvalidNumber : PySem.W.findIn K (.ref D_InvalidNumber) "index" = some none)
    (xg_InvalidNumber : PySem.W.findIn K (.ref D_InvalidNumber) "given" = some none)
    (xga_InvalidNumber : PySem.W.findIn K (.ref D_InvalidNumber) "__getattribute__" = some (some (.builtin "BaseException.__getattribute__")))
    (xgg_InvalidNumber : PySem.W.findIn K (.ref D_InvalidNumber) "__getattr__" = some none)
    (xcl_InvalidNumber : PySem.W.findIn K (.ref D_InvalidNumber) "__class__" = some (some (.builtin "object.__class__")))
    (xe_InvalidNumber : PySem.W.subIn K (.ref D_InvalidNumber) (.type "BaseException") = some true)
    (xk_InvalidNumber : PySem.W.keepIn K (.ref D_InvalidNumber) = true)
    (xhd_InvalidNumber : PySem.W.hasDictIn K D_InvalidNumber = true)
    (xmo_InvalidNumber : PySem.W.mroIn K D_InvalidNumber (.type "object") = some true)
    (xc_InvalidNumber : K.fr.lookup D_InvalidNumber = some (excClassObj y_nm_InvalidNumber y_q_InvalidNumber D_InvalidNumber y_N_InvalidNumber y_bs_InvalidNumber y_bm_InvalidNumber true y_sn_InvalidNumber y_sub_InvalidNumber y_ab_InvalidNumber y_col_InvalidNumber y_dd_InvalidNumber y_k0_InvalidNumber y_k1_InvalidNumber y_k2_InvalidNumber y_k3_InvalidNumber y_k5_InvalidNumber "ValueError.__new__"))
    (xr_InvalidNumber : PySem.HandSPX.refsVE y_bm_InvalidNumber = true)
    (xs_InvalidNumber : PySem.W.findIn K (.ref D_InvalidNumber) "__setattr__" = some (some (.builtin "object.__setattr__")))
    (xt_InvalidNumber : PySem.W.typeIn K (.ref D_InvalidNumber) = some (.type "type"))
    (a_InvalidNumber___init__ : PySem.W.findIn K (.ref D_InvalidNumber) "__init__" = some (some (.ref f_InvalidNumber___init__)))
    (i_InvalidNumber___init__ : PySem.W.typeIn K (.ref f_InvalidNumber___init__) = some (.type "function"))
    (l_InvalidNumber___init__ : K.fr.lookup f_InvalidNumber___init__ = some ⟨oc_InvalidNumber___init__, od_InvalidNumber___init__, .func (PySem.W.fnOf "__init__" "InvalidNumber.__init__" (defArgs s_InvalidNumber___init__) (defBody s_InvalidNumber___init__) (defScope s_InvalidNumber___init__) .none kV_InvalidNumber___init__ dc_InvalidNumber___init__ pm_InvalidNumber___init__ an_InvalidNumber___init__ cd_InvalidNumber___init__ ct_InvalidNumber___init__), sl_InvalidNumber___init__⟩)
    (c_InvalidNumber___init__ : PySem.W.codeIn K cd_InvalidNumber___init__ "InvalidNumber.__init__" = true)
    (k_InvalidNumber___init__ : PySem.W.keepIn K (.ref f_InvalidNumber___init__) = true)
    (xi_InvalidQuestion : PySem.W.findIn K (.ref D_InvalidQuestion) "index" = some none)
    (xg_InvalidQuestion : PySem.W.findIn K (.ref D_InvalidQuestion) "given" = some none)
    (xga_InvalidQuestion : PySem.W.findIn K (.ref D_InvalidQuestion) "__getattribute__" = some (some (.builtin "BaseException.__getattribute__")))
    (xgg_InvalidQuestion : PySem.W.findIn K (.ref D_InvalidQuestion) "__getattr__" = some none)
    (xcl_InvalidQuestion : PySem.W.findIn K (.ref D_InvalidQuestion) "__class__" = some (some (.builtin "object.__class__")))
    (xe_InvalidQuestion : PySem.W.subIn K (.ref D_InvalidQuestion) (.type "BaseException") = some true)
    (xk_InvalidQuestion : PySem.W.keepIn K (.ref D_InvalidQuestion) = true)
    (xhd_InvalidQuestion : PySem.W.hasDictIn K D_InvalidQuestion = true)
    (xmo_InvalidQuestion : PySem.W.mroIn K D_InvalidQuestion (.type "object") = some true)
    (xc_InvalidQuestion : K.fr.lookup D_InvalidQuestion = some (excClassObj y_nm_InvalidQuestion y_q_InvalidQuestion D_InvalidQuestion y_N_InvalidQuestion y_bs_InvalidQuestion y_bm_InvalidQuestion true y_sn_InvalidQuestion y_sub_InvalidQuestion y_ab_InvalidQuestion y_col_InvalidQuestion y_dd_InvalidQuestion y_k0_InvalidQuestion y_k1_InvalidQuestion y_k2_InvalidQuestion y_k3_InvalidQuestion y_k5_InvalidQuestion "ValueError.__new__"))
    (xr_InvalidQuestion : PySem.HandSPX.refsVE y_bm_InvalidQuestion = true)
    (xs_InvalidQuestion : PySem.W.findIn K (.ref D_InvalidQuestion) "__setattr__" = some (some (.builtin "object.__setattr__")))
    (xt_InvalidQuestion : PySem.W.typeIn K (.ref D_InvalidQuestion) = some (.type "type"))
    (a_InvalidQuestion___init__ : PySem.W.findIn K (.ref D_InvalidQuestion) "__init__" = some (some (.ref f_InvalidQuestion___init__)))
    (i_InvalidQuestion___init__ : PySem.W.typeIn K (.ref f_InvalidQuestion___init__) = some (.type "function"))
    (l_InvalidQuestion___init__ : K.fr.lookup f_InvalidQuestion___init__ = some ⟨oc_InvalidQuestion___init__, od_InvalidQuestion___init__, .func (PySem.W.fnOf "__init__" "InvalidQuestion.__init__" (defArgs s_InvalidQuestion___init__) (defBody s_InvalidQuestion___init__) (defScope s_InvalidQuestion___init__) .none kV_InvalidQuestion___init__ dc_InvalidQuestion___init__ pm_InvalidQuestion___init__ an_InvalidQuestion___init__ cd_InvalidQuestion___init__ ct_InvalidQuestion___init__), sl_InvalidQuestion___init__⟩)
    (c_InvalidQuestion___init__ : PySem.W.codeIn K cd_InvalidQuestion___init__ "InvalidQuestion.__init__" = true)
    (k_InvalidQuestion___init__ : PySem.W.keepIn K (.ref f_InvalidQuestion___init__) = true)
    (xi_InvalidCase : PySem.W.findIn K (.ref D_InvalidCase) "index" = some none)
    (xg_InvalidCase : PySem.W.findIn K (.ref D_InvalidCase) "given" = some none)
    (xga_InvalidCase : PySem.W.findIn K (.ref D_InvalidCase) "__getattribute__" = some (some (.builtin "BaseException.__getattribute__")))
    (xgg_InvalidCase : PySem.W.findIn K (.ref D_InvalidCase) "__getattr__" = some none)
    (xcl_InvalidCase : PySem.W.findIn K (.ref D_InvalidCase) "__class__" = some (some (.builtin "object.__class__")))
    (xe_InvalidCase : PySem.W.subIn K (.ref D_InvalidCase) (.type "BaseException") = some true)
    (xk_InvalidCase : PySem.W.keepIn K (.ref D_InvalidCase) = true)
    (xhd_InvalidCase : PySem.W.hasDictIn K D_InvalidCase = true)
    (xmo_InvalidCase : PySem.W.mroIn K D_InvalidCase (.type "object") = some true)
    (xc_InvalidCase : K.fr.lookup D_InvalidCase = some (excClassObj y_nm_InvalidCase y_q_InvalidCase D_InvalidCase y_N_InvalidCase y_bs_InvalidCase y_bm_InvalidCase true y_sn_InvalidCase y_sub_InvalidCase y_ab_InvalidCase y_col_InvalidCase y_dd_InvalidCase y_k0_InvalidCase y_k1_InvalidCase y_k2_InvalidCase y_k3_InvalidCase y_k5_InvalidCase "ValueError.__new__"))
    (xr_InvalidCase : PySem.HandSPX.refsVE y_bm_InvalidCase = true)
    (xs_InvalidCase : PySem.W.findIn K (.ref D_InvalidCase) "__setattr__" = some (some (.builtin "object.__setattr__")))
    (xt_InvalidCase : PySem.W.typeIn K (.ref D_InvalidCase) = some (.type "type"))
    (a_InvalidCase___init__ : PySem.W.findIn K (.ref D_InvalidCase) "__init__" = some (some (.ref f_InvalidCase___init__)))
    (i_InvalidCase___init__ : PySem.W.typeIn K (.ref f_InvalidCase___init__) = some (.type "function"))
    (l_InvalidCase___init__ : K.fr.lookup f_InvalidCase___init__ = some ⟨oc_InvalidCase___init__, od_InvalidCase___init__, .func (PySem.W.fnOf "__init__" "InvalidCase.__init__" (defArgs s_InvalidCase___init__) (defBody s_InvalidCase___init__) (defScope s_InvalidCase___init__) .none kV_InvalidCase___init__ dc_InvalidCase___init__ pm_InvalidCase___init__ an_InvalidCase___init__ cd_InvalidCase___init__ ct_InvalidCase___init__), sl_InvalidCase___init__⟩)
    (c_InvalidCase___init__ : PySem.W.codeIn K cd_InvalidCase___init__ "InvalidCase.__init__" = true)
    (k_InvalidCase___init__ : PySem.W.keepIn K (.ref f_InvalidCase___init__) = true)
    (xi_InvalidChange : PySem.W.findIn K (.ref D_InvalidChange) "index" = some none)
    (xg_InvalidChange : PySem.W.findIn K (.ref D_InvalidChange) "given" = some none)
    (xga_InvalidChange : PySem.W.findIn K (.ref D_InvalidChange) "__getattribute__" = some (some (.builtin "BaseException.__getattribute__")))
    (xgg_InvalidChange : PySem.W.findIn K (.ref D_InvalidChange) "__getattr__" = some none)
    (xcl_InvalidChange : PySem.W.findIn K (.ref D_InvalidChange) "__class__" = some (some (.builtin "object.__class__")))
    (xe_InvalidChange : PySem.W.subIn K (.ref D_InvalidChange) (.type "BaseException") = some true)
    (xk_InvalidChange : PySem.W.keepIn K (.ref D_InvalidChange) = true)
    (xhd_InvalidChange : PySem.W.hasDictIn K D_InvalidChange = true)
    (xmo_InvalidChange : PySem.W.mroIn K D_InvalidChange (.type "object") = some true)
    (xc_InvalidChange : K.fr.lookup D_InvalidChange = some (excClassObj y_nm_InvalidChange y_q_InvalidChange D_InvalidChange y_N_InvalidChange y_bs_InvalidChange y_bm_InvalidChange true y_sn_InvalidChange y_sub_InvalidChange y_ab_InvalidChange y_col_InvalidChange y_dd_InvalidChange y_k0_InvalidChange y_k1_InvalidChange y_k2_InvalidChange y_k3_InvalidChange y_k5_InvalidChange "ValueError.__new__"))
    (xr_InvalidChange : PySem.HandSPX.refsVE y_bm_InvalidChange = true)
    (xs_InvalidChange : PySem.W.findIn K (.ref D_InvalidChange) "__setattr__" = some (some (.builtin "object.__setattr__")))
    (xt_InvalidChange : PySem.W.typeIn K (.ref D_InvalidChange) = some (.type "type"))
    (a_InvalidChange___init__ : PySem.W.findIn K (.ref D_InvalidChange) "__init__" = some (some (.ref f_InvalidChange___init__)))
    (i_InvalidChange___init__ : PySem.W.typeIn K (.ref f_InvalidChange___init__) = some (.type "function"))
    (l_InvalidChange___init__ : K.fr.lookup f_InvalidChange___init__ = some ⟨oc_InvalidChange___init__, od_InvalidChange___init__, .func (PySem.W.fnOf "__init__" "InvalidChange.__init__" (defArgs s_InvalidChange___init__) (defBody s_InvalidChange___init__) (defScope s_InvalidChange___init__) .none kV_InvalidChange___init__ dc_InvalidChange___init__ pm_InvalidChange___init__ an_InvalidChange___init__ cd_InvalidChange___init__ ct_InvalidChange___init__), sl_InvalidChange___init__⟩)
    (c_InvalidChange___init__ : PySem.W.codeIn K cd_InvalidChange___init__ "InvalidChange.__init__" = true)
    (k_InvalidChange___init__ : PySem.W.keepIn K (.ref f_InvalidChange___init__) = true)
    (xi_InvalidWish : PySem.W.findIn K (.ref D_InvalidWish) "index" = some none)
    (xg_InvalidWish : PySem.W.findIn K (.ref D_InvalidWish) "given" = some none)
    (xga_InvalidWish : PySem.W.findIn K (.ref D_InvalidWish) "__getattribute__" = some (some (.builtin "BaseException.__getattribute__")))
    (xgg_InvalidWish : PySem.W.findIn K (.ref D_InvalidWish) "__getattr__" = some none)
    (xcl_InvalidWish : PySem.W.findIn K (.ref D_InvalidWish) "__class__" = some (some (.builtin "object.__class__")))
    (xe_InvalidWish : PySem.W.subIn K (.ref D_InvalidWish) (.type "BaseException") = some true)
    (xk_InvalidWish : PySem.W.keepIn K (.ref D_InvalidWish) = true)
    (xhd_InvalidWish : PySem.W.hasDictIn K D_InvalidWish = true)
    (xmo_InvalidWish : PySem.W.mroIn K D_InvalidWish (.type "object") = some true)
    (xc_InvalidWish : K.fr.lookup D_InvalidWish = some (excClassObj y_nm_InvalidWish y_q_InvalidWish D_InvalidWish y_N_InvalidWish y_bs_InvalidWish y_bm_InvalidWish true y_sn_InvalidWish y_sub_InvalidWish y_ab_InvalidWish y_col_InvalidWish y_dd_InvalidWish y_k0_InvalidWish y_k1_InvalidWish y_k2_InvalidWish y_k3_InvalidWish y_k5_InvalidWish "ValueError.__new__"))
    (xr_InvalidWish : PySem.HandSPX.refsVE y_bm_InvalidWish = true)
    (xs_InvalidWish : PySem.W.findIn K (.ref D_InvalidWish) "__setattr__" = some (some (.builtin "object.__setattr__")))
    (xt_InvalidWish : PySem.W.typeIn K (.ref D_InvalidWish) = some (.type "type"))
    (a_InvalidWish___init__ : PySem.W.findIn K (.ref D_InvalidWish) "__init__" = some (some (.ref f_InvalidWish___init__)))
    (i_InvalidWish___init__ : PySem.W.typeIn K (.ref f_InvalidWish___init__) = some (.type "function"))
    (l_InvalidWish___init__ : K.fr.lookup f_InvalidWish___init__ = some ⟨oc_InvalidWish___init__, od_InvalidWish___init__, .func (PySem.W.fnOf "__init__" "InvalidWish.__init__" (defArgs s_InvalidWish___init__) (defBody s_InvalidWish___init__) (defScope s_InvalidWish___init__) .none kV_InvalidWish___init__ dc_InvalidWish___init__ pm_InvalidWish___init__ an_InvalidWish___init__ cd_InvalidWish___init__ ct_InvalidWish___init__), sl_InvalidWish___init__⟩)
    (c_InvalidWish___init__ : PySem.W.codeIn K cd_InvalidWish___init__ "InvalidWish.__init__" = true)
    (k_InvalidWish___init__ : PySem.W.keepIn K (.ref f_InvalidWish___init__) = true)
    (xi_InvalidIndex : PySem.W.findIn K (.ref D_InvalidIndex) "index" = some none)
    (xg_InvalidIndex : PySem.W.findIn K (.ref D_InvalidIndex) "given" = some none)
    (xga_InvalidIndex : PySem.W.findIn K (.ref D_InvalidIndex) "__getattribute__" = some (some (.builtin "BaseException.__getattribute__")))
    (xgg_InvalidIndex : PySem.W.findIn K (.ref D_InvalidIndex) "__getattr__" = some none)
    (xcl_InvalidIndex : PySem.W.findIn K (.ref D_InvalidIndex) "__class__" = some (some (.builtin "object.__class__")))
    (xe_InvalidIndex : PySem.W.subIn K (.ref D_InvalidIndex) (.type "BaseException") = some true)
    (xk_InvalidIndex : PySem.W.keepIn K (.ref D_InvalidIndex) = true)
    (xhd_InvalidIndex : PySem.W.hasDictIn K D_InvalidIndex = true)
    (xmo_InvalidIndex : PySem.W.mroIn K D_InvalidIndex (.type "object") = some true)
    (xc_InvalidIndex : K.fr.lookup D_InvalidIndex = some (excClassObj y_nm_InvalidIndex y_q_InvalidIndex D_InvalidIndex y_N_InvalidIndex y_bs_InvalidIndex y_bm_InvalidIndex true y_sn_InvalidIndex y_sub_InvalidIndex y_ab_InvalidIndex y_col_InvalidIndex y_dd_InvalidIndex y_k0_InvalidIndex y_k1_InvalidIndex y_k2_InvalidIndex y_k3_InvalidIndex y_k5_InvalidIndex "ValueError.__new__"))
    (xr_InvalidIndex : PySem.HandSPX.refsVE y_bm_InvalidIndex = true)
    (xs_InvalidIndex : PySem.W.findIn K (.ref D_InvalidIndex) "__setattr__" = some (some (.builtin "object.__setattr__")))
    (xt_InvalidIndex : PySem.W.typeIn K (.ref D_InvalidIndex) = some (.type "type"))
    (a_InvalidIndex___init__ : PySem.W.findIn K (.ref D_InvalidIndex) "__init__" = some (some (.ref f_InvalidIndex___init__)))
    (i_InvalidIndex___init__ : PySem.W.typeIn K (.ref f_InvalidIndex___init__) = some (.type "function"))
    (l_InvalidIndex___init__ : K.fr.lookup f_InvalidIndex___init__ = some ⟨oc_InvalidIndex___init__, od_InvalidIndex___init__, .func (PySem.W.fnOf "__init__" "InvalidIndex.__init__" (defArgs s_InvalidIndex___init__) (defBody s_InvalidIndex___init__) (defScope s_InvalidIndex___init__) .none kV_InvalidIndex___init__ dc_InvalidIndex___init__ pm_InvalidIndex___init__ an_InvalidIndex___init__ cd_InvalidIndex___init__ ct_InvalidIndex___init__), sl_InvalidIndex___init__⟩)
    (c_InvalidIndex___init__ : PySem.W.codeIn K cd_InvalidIndex___init__ "InvalidIndex.__init__" = true)
    (k_InvalidIndex___init__ : PySem.W.keepIn K (.ref f_InvalidIndex___init__) = true)
    (xi_NotARule : PySem.W.findIn K (.ref D_NotARule) "index" = some none)
    (xg_NotARule : PySem.W.findIn K (.ref D_NotARule) "given" = some none)
    (xga_NotARule : PySem.W.findIn K (.ref D_NotARule) "__getattribute__" = some (some (.builtin "BaseException.__getattribute__")))
    (xgg_NotARule : PySem.W.findIn K (.ref D_NotARule) "__getattr__" = some none)
    (xcl_NotARule : PySem.W.findIn K (.ref D_NotARule) "__class__" = some (some (.builtin "object.__class__")))
    (xe_NotARule : PySem.W.subIn K (.ref D_NotARule) (.type "BaseException") = some true)
    (xk_NotARule : PySem.W.keepIn K (.ref D_NotARule) = true)
    (xhd_NotARule : PySem.W.hasDictIn K D_NotARule = true)
    (xmo_NotARule : PySem.W.mroIn K D_NotARule (.type "object") = some true)
    (xc_NotARule : K.fr.lookup D_NotARule = some (excClassObj y_nm_NotARule y_q_NotARule D_NotARule y_N_NotARule y_bs_NotARule y_bm_NotARule true y_sn_NotARule y_sub_NotARule y_ab_NotARule y_col_NotARule y_dd_NotARule y_k0_NotARule y_k1_NotARule y_k2_NotARule y_k3_NotARule y_k5_NotARule "ValueError.__new__"))
    (xr_NotARule : PySem.HandSPX.refsVE y_bm_NotARule = true)
    (xs_NotARule : PySem.W.findIn K (.ref D_NotARule) "__setattr__" = some (some (.builtin "object.__setattr__")))
    (xt_NotARule : PySem.W.typeIn K (.ref D_NotARule) = some (.type "type"))
    (a_NotARule___init__ : PySem.W.findIn K (.ref D_NotARule) "__init__" = some (some (.ref f_NotARule___init__)))
    (i_NotARule___init__ : PySem.W.typeIn K (.ref f_NotARule___init__) = some (.type "function"))
    (l_NotARule___init__ : K.fr.lookup f_NotARule___init__ = some ⟨oc_NotARule___init__, od_NotARule___init__, .func (PySem.W.fnOf "__init__" "NotARule.__init__" (defArgs s_NotARule___init__) (defBody s_NotARule___init__) (defScope s_NotARule___init__) .none kV_NotARule___init__ dc_NotARule___init__ pm_NotARule___init__ an_NotARule___init__ cd_NotARule___init__ ct_NotARule___init__), sl_NotARule___init__⟩)
    (c_NotARule___init__ : PySem.W.codeIn K cd_NotARule___init__ "NotARule.__init__" = true)
    (k_NotARule___init__ : PySem.W.keepIn K (.ref f_NotARule___init__) = true)
    (xi_OtherSeats : PySem.W.findIn K (.ref D_OtherSeats) "index" = some none)
    (xg_OtherSeats : PySem.W.findIn K (.ref D_OtherSeats) "given" = some none)
    (xga_OtherSeats : PySem.W.findIn K (.ref D_OtherSeats) "__getattribute__" = some (some (.builtin "BaseException.__getattribute__")))
    (xgg_OtherSeats : PySem.W.findIn K (.ref D_OtherSeats) "__getattr__" = some none)
    (xcl_OtherSeats : PySem.W.findIn K (.ref D_OtherSeats) "__class__" = some (some (.builtin "object.__class__")))
    (xe_OtherSeats : PySem.W.subIn K (.ref D_OtherSeats) (.type "BaseException") = some true)
    (xk_OtherSeats : PySem.W.keepIn K (.ref D_OtherSeats) = true)
    (xhd_OtherSeats : PySem.W.hasDictIn K D_OtherSeats = true)
    (xmo_OtherSeats : PySem.W.mroIn K D_OtherSeats (.type "object") = some true)
    (xc_OtherSeats : K.fr.lookup D_OtherSeats = some (excClassObj y_nm_OtherSeats y_q_OtherSeats D_OtherSeats y_N_OtherSeats y_bs_OtherSeats y_bm_OtherSeats true y_sn_OtherSeats y_sub_OtherSeats y_ab_OtherSeats y_col_OtherSeats y_dd_OtherSeats y_k0_OtherSeats y_k1_OtherSeats y_k2_OtherSeats y_k3_OtherSeats y_k5_OtherSeats "ValueError.__new__"))
    (xr_OtherSeats : PySem.HandSPX.refsVE y_bm_OtherSeats = true)
    (xs_OtherSeats : PySem.W.findIn K (.ref D_OtherSeats) "__setattr__" = some (some (.builtin "object.__setattr__")))
    (xt_OtherSeats : PySem.W.typeIn K (.ref D_OtherSeats) = some (.type "type"))
    (a_OtherSeats___init__ : PySem.W.findIn K (.ref D_OtherSeats) "__init__" = some (some (.ref f_OtherSeats___init__)))
    (i_OtherSeats___init__ : PySem.W.typeIn K (.ref f_OtherSeats___init__) = some (.type "function"))
    (l_OtherSeats___init__ : K.fr.lookup f_OtherSeats___init__ = some ⟨oc_OtherSeats___init__, od_OtherSeats___init__, .func (PySem.W.fnOf "__init__" "OtherSeats.__init__" (defArgs s_OtherSeats___init__) (defBody s_OtherSeats___init__) (defScope s_OtherSeats___init__) .none kV_OtherSeats___init__ dc_OtherSeats___init__ pm_OtherSeats___init__ an_OtherSeats___init__ cd_OtherSeats___init__ ct_OtherSeats___init__), sl_OtherSeats___init__⟩)
    (c_OtherSeats___init__ : PySem.W.codeIn K cd_OtherSeats___init__ "OtherSeats.__init__" = true)
    (k_OtherSeats___init__ : PySem.W.keepIn K (.ref f_OtherSeats___init__) = true)
    (xi_InvalidSeats : PySem.W.findIn K (.ref D_InvalidSeats) "index" = some none)
    (xg_InvalidSeats : PySem.W.findIn K (.ref D_InvalidSeats) "given" = some none)
    (xga_InvalidSeats : PySem.W.findIn K (.ref D_InvalidSeats) "__getattribute__" = some (some (.builtin "BaseException.__getattribute__")))
    (xgg_InvalidSeats : PySem.W.findIn K (.ref D_InvalidSeats) "__getattr__" = some none)
    (xcl_InvalidSeats : PySem.W.findIn K (.ref D_InvalidSeats) "__class__" = some (some (.builtin "object.__class__")))
    (xe_InvalidSeats : PySem.W.subIn K (.ref D_InvalidSeats) (.type "BaseException") = some true)
    (xk_InvalidSeats : PySem.W.keepIn K (.ref D_InvalidSeats) = true)
    (xhd_InvalidSeats : PySem.W.hasDictIn K D_InvalidSeats = true)
    (xmo_InvalidSeats : PySem.W.mroIn K D_InvalidSeats (.type "object") = some true)
    (xc_InvalidSeats : K.fr.lookup D_InvalidSeats = some (excClassObj y_nm_InvalidSeats y_q_InvalidSeats D_InvalidSeats y_N_InvalidSeats y_bs_InvalidSeats y_bm_InvalidSeats true y_sn_InvalidSeats y_sub_InvalidSeats y_ab_InvalidSeats y_col_InvalidSeats y_dd_InvalidSeats y_k0_InvalidSeats y_k1_InvalidSeats y_k2_InvalidSeats y_k3_InvalidSeats y_k5_InvalidSeats "ValueError.__new__"))
    (xr_InvalidSeats : PySem.HandSPX.refsVE y_bm_InvalidSeats = true)
    (xs_InvalidSeats : PySem.W.findIn K (.ref D_InvalidSeats) "__setattr__" = some (some (.builtin "object.__setattr__")))
    (xt_InvalidSeats : PySem.W.typeIn K (.ref D_InvalidSeats) = some (.type "type"))
    (a_InvalidSeats___init__ : PySem.W.findIn K (.ref D_InvalidSeats) "__init__" = some (some (.ref f_InvalidSeats___init__)))
    (i_InvalidSeats___init__ : PySem.W.typeIn K (.ref f_InvalidSeats___init__) = some (.type "function"))
    (l_InvalidSeats___init__ : K.fr.lookup f_InvalidSeats___init__ = some ⟨oc_InvalidSeats___init__, od_InvalidSeats___init__, .func (PySem.W.fnOf "__init__" "InvalidSeats.__init__" (defArgs s_InvalidSeats___init__) (defBody s_InvalidSeats___init__) (defScope s_InvalidSeats___init__) .none kV_InvalidSeats___init__ dc_InvalidSeats___init__ pm_InvalidSeats___init__ an_InvalidSeats___init__ cd_InvalidSeats___init__ ct_InvalidSeats___init__), sl_InvalidSeats___init__⟩)
    (c_InvalidSeats___init__ : PySem.W.codeIn K cd_InvalidSeats___init__ "InvalidSeats.__init__" = true)
    (k_InvalidSeats___init__ : PySem.W.keepIn K (.ref f_InvalidSeats___init__) = true)
    (xi_InvalidLines : PySem.W.findIn K (.ref D_InvalidLines) "index" = some none)
    (xg_InvalidLines : PySem.W.findIn K (.ref D_InvalidLines) "given" = some none)
    (xga_InvalidLines : PySem.W.findIn K (.ref D_InvalidLines) "__getattribute__" = some (some (.builtin "BaseException.__getattribute__")))
    (xgg_InvalidLines : PySem.W.findIn K (.ref D_InvalidLines) "__getattr__" = some none)
    (xcl_InvalidLines : PySem.W.findIn K (.ref D_InvalidLines) "__class__" = some (some (.builtin "object.__class__")))
    (xe_InvalidLines : PySem.W.subIn K (.ref D_InvalidLines) (.type "BaseException") = some true)
    (xk_InvalidLines : PySem.W.keepIn K (.ref D_InvalidLines) = true)
    (xhd_InvalidLines : PySem.W.hasDictIn K D_InvalidLines = true)
    (xmo_InvalidLines : PySem.W.mroIn K D_InvalidLines (.type "object") = some true)
    (xc_InvalidLines : K.fr.lookup D_InvalidLines = some (excClassObj y_nm_InvalidLines y_q_InvalidLines D_InvalidLines y_N_InvalidLines y_bs_InvalidLines y_bm_InvalidLines true y_sn_InvalidLines y_sub_InvalidLines y_ab_InvalidLines y_col_InvalidLines y_dd_InvalidLines y_k0_InvalidLines y_k1_InvalidLines y_k2_InvalidLines y_k3_InvalidLines y_k5_InvalidLines "ValueError.__new__"))
    (xr_InvalidLines : PySem.HandSPX.refsVE y_bm_InvalidLines = true)
    (xs_InvalidLines : PySem.W.findIn K (.ref D_InvalidLines) "__setattr__" = some (some (.builtin "object.__setattr__")))
    (xt_InvalidLines : PySem.W.typeIn K (.ref D_InvalidLines) = some (.type "type"))
    (a_InvalidLines___init__ : PySem.W.findIn K (.ref D_InvalidLines) "__init__" = some (some (.ref f_InvalidLines___init__)))
    (i_InvalidLines___init__ : PySem.W.typeIn K (.ref f_InvalidLines___init__) = some (.type "function"))
    (l_InvalidLines___init__ : K.fr.lookup f_InvalidLines___init__ = some ⟨oc_InvalidLines___init__, od_InvalidLines___init__, .func (PySem.W.fnOf "__init__" "InvalidLines.__init__" (defArgs s_InvalidLines___init__) (defBody s_InvalidLines___init__) (defScope s_InvalidLines___init__) .none kV_InvalidLines___init__ dc_InvalidLines___init__ pm_InvalidLines___init__ an_InvalidLines___init__ cd_InvalidLines___init__ ct_InvalidLines___init__), sl_InvalidLines___init__⟩)
    (c_InvalidLines___init__ : PySem.W.codeIn K cd_InvalidLines___init__ "InvalidLines.__init__" = true)
    (k_InvalidLines___init__ : PySem.W.keepIn K (.ref f_InvalidLines___init__) = true)
    (xi_InvalidRows : PySem.W.findIn K (.ref D_InvalidRows) "index" = some none)
    (xg_InvalidRows : PySem.W.findIn K (.ref D_InvalidRows) "given" = some none)
    (xga_InvalidRows : PySem.W.findIn K (.ref D_InvalidRows) "__getattribute__" = some (some (.builtin "BaseException.__getattribute__")))
    (xgg_InvalidRows : PySem.W.findIn K (.ref D_InvalidRows) "__getattr__" = some none)
    (xcl_InvalidRows : PySem.W.findIn K (.ref D_InvalidRows) "__class__" = some (some (.builtin "object.__class__")))
    (xe_InvalidRows : PySem.W.subIn K (.ref D_InvalidRows) (.type "BaseException") = some true)
    (xk_InvalidRows : PySem.W.keepIn K (.ref D_InvalidRows) = true)
    (xhd_InvalidRows : PySem.W.hasDictIn K D_InvalidRows = true)
    (xmo_InvalidRows : PySem.W.mroIn K D_InvalidRows (.type "object") = some true)
    (xc_InvalidRows : K.fr.lookup D_InvalidRows = some (excClassObj y_nm_InvalidRows y_q_InvalidRows D_InvalidRows y_N_InvalidRows y_bs_InvalidRows y_bm_InvalidRows true y_sn_InvalidRows y_sub_InvalidRows y_ab_InvalidRows y_col_InvalidRows y_dd_InvalidRows y_k0_InvalidRows y_k1_InvalidRows y_k2_InvalidRows y_k3_InvalidRows y_k5_InvalidRows "ValueError.__new__"))
    (xr_InvalidRows : PySem.HandSPX.refsVE y_bm_InvalidRows = true)
    (xs_InvalidRows : PySem.W.findIn K (.ref D_InvalidRows) "__setattr__" = some (some (.builtin "object.__setattr__")))
    (xt_InvalidRows : PySem.W.typeIn K (.ref D_InvalidRows) = some (.type "type"))
    (a_InvalidRows___init__ : PySem.W.findIn K (.ref D_InvalidRows) "__init__" = some (some (.ref f_InvalidRows___init__)))
    (i_InvalidRows___init__ : PySem.W.typeIn K (.ref f_InvalidRows___init__) = some (.type "function"))
    (l_InvalidRows___init__ : K.fr.lookup f_InvalidRows___init__ = some ⟨oc_InvalidRows___init__, od_InvalidRows___init__, .func (PySem.W.fnOf "__init__" "InvalidRows.__init__" (defArgs s_InvalidRows___init__) (defBody s_InvalidRows___init__) (defScope s_InvalidRows___init__) .none kV_InvalidRows___init__ dc_InvalidRows___init__ pm_InvalidRows___init__ an_InvalidRows___init__ cd_InvalidRows___init__ ct_InvalidRows___init__), sl_InvalidRows___init__⟩)
    (c_InvalidRows___init__ : PySem.W.codeIn K cd_InvalidRows___init__ "InvalidRows.__init__" = true)
    (k_InvalidRows___init__ : PySem.W.keepIn K (.ref f_InvalidRows___init__) = true)
    (xi_InvalidBids : PySem.W.findIn K (.ref D_InvalidBids) "index" = some none)
    (xg_InvalidBids : PySem.W.findIn K (.ref D_InvalidBids) "given" = some none)
    (xga_InvalidBids : PySem.W.findIn K (.ref D_InvalidBids) "__getattribute__" = some (some (.builtin "BaseException.__getattribute__")))
    (xgg_InvalidBids : PySem.W.findIn K (.ref D_InvalidBids) "__getattr__" = some none)
    (xcl_InvalidBids : PySem.W.findIn K (.ref D_InvalidBids) "__class__" = some (some (.builtin "object.__class__")))
    (xe_InvalidBids : PySem.W.subIn K (.ref D_InvalidBids) (.type "BaseException") = some true)
    (xk_InvalidBids : PySem.W.keepIn K (.ref D_InvalidBids) = true)
    (xhd_InvalidBids : PySem.W.hasDictIn K D_InvalidBids = true)
    (xmo_InvalidBids : PySem.W.mroIn K D_InvalidBids (.type "object") = some true)
    (xc_InvalidBids : K.fr.lookup D_InvalidBids = some (excClassObj y_nm_InvalidBids y_q_InvalidBids D_InvalidBids y_N_InvalidBids y_bs_InvalidBids y_bm_InvalidBids true y_sn_InvalidBids y_sub_InvalidBids y_ab_InvalidBids y_col_InvalidBids y_dd_InvalidBids y_k0_InvalidBids y_k1_InvalidBids y_k2_InvalidBids y_k3_InvalidBids y_k5_InvalidBids "ValueError.__new__"))
    (xr_InvalidBids : PySem.HandSPX.refsVE y_bm_InvalidBids = true)
    (xs_InvalidBids : PySem.W.findIn K (.ref D_InvalidBids) "__setattr__" = some (some (.builtin "object.__setattr__")))
    (xt_InvalidBids : PySem.W.typeIn K (.ref D_InvalidBids) = some (.type "type"))
    (a_InvalidBids___init__ : PySem.W.findIn K (.ref D_InvalidBids) "__init__" = some (some (.ref f_InvalidBids___init__)))
    (i_InvalidBids___init__ : PySem.W.typeIn K (.ref f_InvalidBids___init__) = some (.type "function"))
    (l_InvalidBids___init__ : K.fr.lookup f_InvalidBids___init__ = some ⟨oc_InvalidBids___init__, od_InvalidBids___init__, .func (PySem.W.fnOf "__init__" "InvalidBids.__init__" (defArgs s_InvalidBids___init__) (defBody s_InvalidBids___init__) (defScope s_InvalidBids___init__) .none kV_InvalidBids___init__ dc_InvalidBids___init__ pm_InvalidBids___init__ an_InvalidBids___init__ cd_InvalidBids___init__ ct_InvalidBids___init__), sl_InvalidBids___init__⟩)
    (c_InvalidBids___init__ : PySem.W.codeIn K cd_InvalidBids___init__ "InvalidBids.__init__" = true)
    (k_InvalidBids___init__ : PySem.W.keepIn K (.ref f_InvalidBids___init__) = true)
    (xi_InvalidChanges : PySem.W.findIn K (.ref D_InvalidChanges) "index" = some none)
    (xg_InvalidChanges : PySem.W.findIn K (.ref D_InvalidChanges) "given" = some none)
    (xga_InvalidChanges : PySem.W.findIn K (.ref D_InvalidChanges) "__getattribute__" = some (some (.builtin "BaseException.__getattribute__")))
    (xgg_InvalidChanges : PySem.W.findIn K (.ref D_InvalidChanges) "__getattr__" = some none)
    (xcl_InvalidChanges : PySem.W.findIn K (.ref D_InvalidChanges) "__class__" = some (some (.builtin "object.__class__")))
    (xe_InvalidChanges : PySem.W.subIn K (.ref D_InvalidChanges) (.type "BaseException") = some true)
    (xk_InvalidChanges : PySem.W.keepIn K (.ref D_InvalidChanges) = true)
    (xhd_InvalidChanges : PySem.W.hasDictIn K D_InvalidChanges = true)
    (xmo_InvalidChanges : PySem.W.mroIn K D_InvalidChanges (.type "object") = some true)
    (xc_InvalidChanges : K.fr.lookup D_InvalidChanges = some (excClassObj y_nm_InvalidChanges y_q_InvalidChanges D_InvalidChanges y_N_InvalidChanges y_bs_InvalidChanges y_bm_InvalidChanges true y_sn_InvalidChanges y_sub_InvalidChanges y_ab_InvalidChanges y_col_InvalidChanges y_dd_InvalidChanges y_k0_InvalidChanges y_k1_InvalidChanges y_k2_InvalidChanges y_k3_InvalidChanges y_k5_InvalidChanges "ValueError.__new__"))
    (xr_InvalidChanges : PySem.HandSPX.refsVE y_bm_InvalidChanges = true)
    (xs_InvalidChanges : PySem.W.findIn K (.ref D_InvalidChanges) "__setattr__" = some (some (.builtin "object.__setattr__")))
    (xt_InvalidChanges : PySem.W.typeIn K (.ref D_InvalidChanges) = some (.type "type"))
    (a_InvalidChanges___init__ : PySem.W.findIn K (.ref D_InvalidChanges) "__init__" = some (some (.ref f_InvalidChanges___init__)))
    (i_InvalidChanges___init__ : PySem.W.typeIn K (.ref f_InvalidChanges___init__) = some (.type "function"))
    (l_InvalidChanges___init__ : K.fr.lookup f_InvalidChanges___init__ = some ⟨oc_InvalidChanges___init__, od_InvalidChanges___init__, .func (PySem.W.fnOf "__init__" "InvalidChanges.__init__" (defArgs s_InvalidChanges___init__) (defBody s_InvalidChanges___init__) (defScope s_InvalidChanges___init__) .none kV_InvalidChanges___init__ dc_InvalidChanges___init__ pm_InvalidChanges___init__ an_InvalidChanges___init__ cd_InvalidChanges___init__ ct_InvalidChanges___init__), sl_InvalidChanges___init__⟩)
    (c_InvalidChanges___init__ : PySem.W.codeIn K cd_InvalidChanges___init__ "InvalidChanges.__init__" = true)
    (k_InvalidChanges___init__ : PySem.W.keepIn K (.ref f_InvalidChanges___init__) = true)
    (xi_UnknownName : PySem.W.findIn K (.ref D_UnknownName) "index" = some none)
    (xg_UnknownName : PySem.W.findIn K (.ref D_UnknownName) "given" = some none)
    (xga_UnknownName : PySem.W.findIn K (.ref D_UnknownName) "__getattribute__" = some (some (.builtin "BaseException.__getattribute__")))
    (xgg_UnknownName : PySem.W.findIn K (.ref D_UnknownName) "__getattr__" = some none)
    (xcl_UnknownName : PySem.W.findIn K (.ref D_UnknownName) "__class__" = some (some (.builtin "object.__class__")))
    (xe_UnknownName : PySem.W.subIn K (.ref D_UnknownName) (.type "BaseException") = some true)
    (xk_UnknownName : PySem.W.keepIn K (.ref D_UnknownName) = true)
    (xhd_UnknownName : PySem.W.hasDictIn K D_UnknownName = true)
    (xmo_UnknownName : PySem.W.mroIn K D_UnknownName (.type "object") = some true)
    (xc_UnknownName : K.fr.lookup D_UnknownName = some (excClassObj y_nm_UnknownName y_q_UnknownName D_UnknownName y_N_UnknownName y_bs_UnknownName y_bm_UnknownName true y_sn_UnknownName y_sub_UnknownName y_ab_UnknownName y_col_UnknownName y_dd_UnknownName y_k0_UnknownName y_k1_UnknownName y_k2_UnknownName y_k3_UnknownName y_k5_UnknownName "LookupError.__new__"))
    (xr_UnknownName : SbX.refsT SbX.leTail y_bm_UnknownName = true)
    (xs_UnknownName : PySem.W.findIn K (.ref D_UnknownName) "__setattr__" = some (some (.builtin "object.__setattr__")))
    (xt_UnknownName : PySem.W.typeIn K (.ref D_UnknownName) = some (.type "type"))
    (a_UnknownName___init__ : PySem.W.findIn K (.ref D_UnknownName) "__init__" = some (some (.ref f_UnknownName___init__)))
    (i_UnknownName___init__ : PySem.W.typeIn K (.ref f_UnknownName___init__) = some (.type "function"))
    (l_UnknownName___init__ : K.fr.lookup f_UnknownName___init__ = some ⟨oc_UnknownName___init__, od_UnknownName___init__, .func (PySem.W.fnOf "__init__" "UnknownName.__init__" (defArgs s_UnknownName___init__) (defBody s_UnknownName___init__) (defScope s_UnknownName___init__) .none kV_UnknownName___init__ dc_UnknownName___init__ pm_UnknownName___init__ an_UnknownName___init__ cd_UnknownName___init__ ct_UnknownName___init__), sl_UnknownName___init__⟩)
    (c_UnknownName___init__ : PySem.W.codeIn K cd_UnknownName___init__ "UnknownName.__init__" = true)
    (k_UnknownName___init__ : PySem.W.keepIn K (.ref f_UnknownName___init__) = true)
    (xi_InUse : PySem.W.findIn K (.ref D_InUse) "index" = some none)
    (xg_InUse : PySem.W.findIn K (.ref D_InUse) "given" = some none)
    (xga_InUse : PySem.W.findIn K (.ref D_InUse) "__getattribute__" = some (some (.builtin "BaseException.__getattribute__")))
    (xgg_InUse : PySem.W.findIn K (.ref D_InUse) "__getattr__" = some none)
    (xcl_InUse : PySem.W.findIn K (.ref D_InUse) "__class__" = some (some (.builtin "object.__class__")))
    (xe_InUse : PySem.W.subIn K (.ref D_InUse) (.type "BaseException") = some true)
    (xk_InUse : PySem.W.keepIn K (.ref D_InUse) = true)
    (xhd_InUse : PySem.W.hasDictIn K D_InUse = true)
    (xmo_InUse : PySem.W.mroIn K D_InUse (.type "object") = some true)
    (xc_InUse : K.fr.lookup D_InUse = some (excClassObj y_nm_InUse y_q_InUse D_InUse y_N_InUse y_bs_InUse y_bm_InUse true y_sn_InUse y_sub_InUse y_ab_InUse y_col_InUse y_dd_InUse y_k0_InUse y_k1_InUse y_k2_InUse y_k3_InUse y_k5_InUse "LookupError.__new__"))
    (xr_InUse : SbX.refsT SbX.leTail y_bm_InUse = true)
    (xs_InUse : PySem.W.findIn K (.ref D_InUse) "__setattr__" = some (some (.builtin "object.__setattr__")))
    (xt_InUse : PySem.W.typeIn K (.ref D_InUse) = some (.type "type"))
    (a_InUse___init__ : PySem.W.findIn K (.ref D_InUse) "__init__" = some (some (.ref f_InUse___init__)))
    (i_InUse___init__ : PySem.W.typeIn K (.ref f_InUse___init__) = some (.type "function"))
    (l_InUse___init__ : K.fr.lookup f_InUse___init__ = some ⟨oc_InUse___init__, od_InUse___init__, .func (PySem.W.fnOf "__init__" "InUse.__init__" (defArgs s_InUse___init__) (defBody s_InUse___init__) (defScope s_InUse___init__) .none kV_InUse___init__ dc_InUse___init__ pm_InUse___init__ an_InUse___init__ cd_InUse___init__ ct_InUse___init__), sl_InUse___init__⟩)
    (c_InUse___init__ : PySem.W.codeIn K cd_InUse___init__ "InUse.__init__" = true)
    (k_InUse___init__ : PySem.W.keepIn K (.ref f_InUse___init__) = true)
    (xi_NothingToUndo : PySem.W.findIn K (.ref D_NothingToUndo) "index" = some none)
    (xg_NothingToUndo : PySem.W.findIn K (.ref D_NothingToUndo) "given" = some none)
    (xga_NothingToUndo : PySem.W.findIn K (.ref D_NothingToUndo) "__getattribute__" = some (some (.builtin "BaseException.__getattribute__")))
    (xgg_NothingToUndo : PySem.W.findIn K (.ref D_NothingToUndo) "__getattr__" = some none)
    (xcl_NothingToUndo : PySem.W.findIn K (.ref D_NothingToUndo) "__class__" = some (some (.builtin "object.__class__")))
    (xe_NothingToUndo : PySem.W.subIn K (.ref D_NothingToUndo) (.type "BaseException") = some true)
    (xk_NothingToUndo : PySem.W.keepIn K (.ref D_NothingToUndo) = true)
    (xhd_NothingToUndo : PySem.W.hasDictIn K D_NothingToUndo = true)
    (xmo_NothingToUndo : PySem.W.mroIn K D_NothingToUndo (.type "object") = some true)
    (xi_Broken : PySem.W.findIn K (.ref D_Broken) "index" = some none)
    (xg_Broken : PySem.W.findIn K (.ref D_Broken) "given" = some none)
    (xga_Broken : PySem.W.findIn K (.ref D_Broken) "__getattribute__" = some (some (.builtin "BaseException.__getattribute__")))
    (xgg_Broken : PySem.W.findIn K (.ref D_Broken) "__getattr__" = some none)
    (xcl_Broken : PySem.W.findIn K (.ref D_Broken) "__class__" = some (some (.builtin "object.__class__")))
    (xe_Broken : PySem.W.subIn K (.ref D_Broken) (.type "BaseException") = some true)
    (xk_Broken : PySem.W.keepIn K (.ref D_Broken) = true)
    (xhd_Broken : PySem.W.hasDictIn K D_Broken = true)
    (xmo_Broken : PySem.W.mroIn K D_Broken (.type "object") = some true)
    (xc_Broken : K.fr.lookup D_Broken = some (excClassObj y_nm_Broken y_q_Broken D_Broken y_N_Broken y_bs_Broken y_bm_Broken true y_sn_Broken y_sub_Broken y_ab_Broken y_col_Broken y_dd_Broken y_k0_Broken y_k1_Broken y_k2_Broken y_k3_Broken y_k5_Broken "ArithmeticError.__new__"))
    (xr_Broken : SbX.refsT SbX.aeTail y_bm_Broken = true)
    (xs_Broken : PySem.W.findIn K (.ref D_Broken) "__setattr__" = some (some (.builtin "object.__setattr__")))
    (xt_Broken : PySem.W.typeIn K (.ref D_Broken) = some (.type "type"))
    (a_Broken___init__ : PySem.W.findIn K (.ref D_Broken) "__init__" = some (some (.ref f_Broken___init__)))
    (i_Broken___init__ : PySem.W.typeIn K (.ref f_Broken___init__) = some (.type "function"))
    (l_Broken___init__ : K.fr.lookup f_Broken___init__ = some ⟨oc_Broken___init__, od_Broken___init__, .func (PySem.W.fnOf "__init__" "Broken.__init__" (defArgs s_Broken___init__) (defBody s_Broken___init__) (defScope s_Broken___init__) .none kV_Broken___init__ dc_Broken___init__ pm_Broken___init__ an_Broken___init__ cd_Broken___init__ ct_Broken___init__), sl_Broken___init__⟩)
    (c_Broken___init__ : PySem.W.codeIn K cd_Broken___init__ "Broken.__init__" = true)
    (k_Broken___init__ : PySem.W.keepIn K (.ref f_Broken___init__) = true)
    (xn_NothingToUndo : PySem.W.excIn K D_NothingToUndo SbX.aeTail "ArithmeticError.__new__" = true)
    (ki_ : kiB K [D_InvalidText, D_InvalidName, D_InvalidNumber, D_InvalidQuestion, D_InvalidCase, D_InvalidChange, D_InvalidWish, D_InvalidIndex, D_NotARule, D_OtherSeats, D_InvalidSeats, D_InvalidLines, D_InvalidRows, D_InvalidBids, D_InvalidChanges, D_UnknownName, D_InUse, D_NothingToUndo, D_Broken] D_BadValue D_BadName D_NoAnswer = true)
    : ∃ fd : FuncData, (∀ (s : Shared) (v : Value), BindsTo s fd ⟨[v], []⟩ [("_law_script", v)]) ∧ ∀ base : Heap, K.fr.In base → base.Ns mainGlobals mg → FnG l.prog w K mg base 5 fa fd ["_law_script"] (sp_law K) := by
  have e := hfa.symm.trans (PySem.W.mg_of X G a_law)
  cases e
  have F__law_source := fun_mk (st := s__law_source) l__law_source c__law_source k__law_source
  have b__law_source := F__law_source.binds (ps := A__law_source) fun _ _ _ _ _ _ us hl => match us, hl with | [_, _], _ => rfl
  have F__law_take := fun_mk (st := s__law_take) l__law_take c__law_take k__law_take
  have b__law_take := F__law_take.binds (ps := A__law_take) fun _ _ _ _ _ _ us hl => match us, hl with | [_, _], _ => rfl
  have F__law_odd := fun_mk (st := s__law_odd) l__law_odd c__law_odd k__law_odd
  have b__law_odd := F__law_odd.binds (ps := A__law_odd) fun _ _ _ _ _ _ us hl => match us, hl with | [_], _ => rfl
  have F__law_sorts := fun_mk (st := s__law_sorts) l__law_sorts c__law_sorts k__law_sorts
  have b__law_sorts := F__law_sorts.binds (ps := A__law_sorts) fun _ _ _ _ _ _ us hl => match us, hl with | [_], _ => rfl
  have F__law_is_right := fun_mk (st := s__law_is_right) l__law_is_right c__law_is_right k__law_is_right
  have b__law_is_right := F__law_is_right.binds (ps := A__law_is_right) fun _ _ _ _ _ _ us hl => match us, hl with | [_, _, _], _ => rfl
  have F__law_placed := fun_mk (st := s__law_placed) l__law_placed c__law_placed k__law_placed
  have b__law_placed := F__law_placed.binds (ps := A__law_placed) fun _ _ _ _ _ _ us hl => match us, hl with | [_], _ => rfl
  have F__law_named := fun_mk (st := s__law_named) l__law_named c__law_named k__law_named
  have b__law_named := F__law_named.binds (ps := A__law_named) fun _ _ _ _ _ _ us hl => match us, hl with | [_], _ => rfl
  have F__law_right := fun_mk (st := s__law_right) l__law_right c__law_right k__law_right
  have b__law_right := F__law_right.binds (ps := A__law_right) fun _ _ _ _ _ _ us hl => match us, hl with | [_], _ => rfl
  have F_law := fun_mk (st := s_law) l_law c_law k_law
  have B : Bf K mg aS aO := ⟨PySem.W.mg_none_of X G z_isinstance, PySem.W.mg_none_of X G z_int, PySem.W.mg_none_of X G z_bool, PySem.W.mg_none_of X G z_str, PySem.W.mg_none_of X G z_tuple, PySem.W.mg_none_of X G z_list, PySem.W.mg_none_of X G z_len, PySem.W.mg_none_of X G z_all, PySem.W.mg_none_of X G z_range, PySem.W.mg_none_of X G z_enumerate, PySem.W.mg_none_of X G z_zip, PySem.W.mg_none_of X G z_dict, PySem.W.mg_none_of X G z_abs, PySem.W.mg_none_of X G z_max, PySem.W.mg_none_of X G z_min, PySem.W.mg_none_of X G z_divmod, PySem.W.mg_none_of X G z_repr, ⟨_, PySem.W.mg_of X G v_MOST_SEATS, ⟨_, rfl⟩⟩, ⟨_, PySem.W.mg_of X G v_MOST_LINES, ⟨_, rfl⟩⟩, ⟨_, PySem.W.mg_of X G v_MOST_ROWS, ⟨_, rfl⟩⟩, ⟨_, PySem.W.mg_of X G v_MOST_PARTS, ⟨_, rfl⟩⟩, ⟨_, PySem.W.mg_of X G v_MOST_RING, ⟨_, rfl⟩⟩, ⟨_, PySem.W.mg_of X G v_MOST_INTEGER, ⟨_, rfl⟩⟩, ⟨_, PySem.W.mg_of X G v_MOST_CHANGES, ⟨_, rfl⟩⟩, PySem.W.mg_none_of X G z_ValueError, PySem.W.mg_none_of X G z_LookupError, PySem.W.mg_none_of X G z_ArithmeticError⟩
  refine ⟨PySem.W.fnOf "law" "law" (defArgs s_law) (defBody s_law) (defScope s_law) .none kV_law dc_law pm_law an_law cd_law ct_law, fun s v => .of_eq rfl, fun base _ _ => ?_⟩
  have g_BadValue : ∃ u, mg "BadValue" = some u ∧ RelV (.ref D_BadValue) u := ⟨_, PySem.W.mg_of X G xa_BadValue, rfl⟩
  have g_BadName : ∃ u, mg "BadName" = some u ∧ RelV (.ref D_BadName) u := ⟨_, PySem.W.mg_of X G xa_BadName, rfl⟩
  have g_NoAnswer : ∃ u, mg "NoAnswer" = some u ∧ RelV (.ref D_NoAnswer) u := ⟨_, PySem.W.mg_of X G xa_NoAnswer, rfl⟩
  have g_InvalidText : ∃ u, mg "InvalidText" = some u ∧ RelV (.ref D_InvalidText) u := ⟨_, PySem.W.mg_of X G xa_InvalidText, rfl⟩
  have g_InvalidName : ∃ u, mg "InvalidName" = some u ∧ RelV (.ref D_InvalidName) u := ⟨_, PySem.W.mg_of X G xa_InvalidName, rfl⟩
  have g_InvalidNumber : ∃ u, mg "InvalidNumber" = some u ∧ RelV (.ref D_InvalidNumber) u := ⟨_, PySem.W.mg_of X G xa_InvalidNumber, rfl⟩
  have g_InvalidQuestion : ∃ u, mg "InvalidQuestion" = some u ∧ RelV (.ref D_InvalidQuestion) u := ⟨_, PySem.W.mg_of X G xa_InvalidQuestion, rfl⟩
  have g_InvalidCase : ∃ u, mg "InvalidCase" = some u ∧ RelV (.ref D_InvalidCase) u := ⟨_, PySem.W.mg_of X G xa_InvalidCase, rfl⟩
  have g_InvalidChange : ∃ u, mg "InvalidChange" = some u ∧ RelV (.ref D_InvalidChange) u := ⟨_, PySem.W.mg_of X G xa_InvalidChange, rfl⟩
  have g_InvalidWish : ∃ u, mg "InvalidWish" = some u ∧ RelV (.ref D_InvalidWish) u := ⟨_, PySem.W.mg_of X G xa_InvalidWish, rfl⟩
  have g_InvalidIndex : ∃ u, mg "InvalidIndex" = some u ∧ RelV (.ref D_InvalidIndex) u := ⟨_, PySem.W.mg_of X G xa_InvalidIndex, rfl⟩
  have g_NotARule : ∃ u, mg "NotARule" = some u ∧ RelV (.ref D_NotARule) u := ⟨_, PySem.W.mg_of X G xa_NotARule, rfl⟩
  have g_OtherSeats : ∃ u, mg "OtherSeats" = some u ∧ RelV (.ref D_OtherSeats) u := ⟨_, PySem.W.mg_of X G xa_OtherSeats, rfl⟩
  have g_InvalidSeats : ∃ u, mg "InvalidSeats" = some u ∧ RelV (.ref D_InvalidSeats) u := ⟨_, PySem.W.mg_of X G xa_InvalidSeats, rfl⟩
  have g_InvalidLines : ∃ u, mg "InvalidLines" = some u ∧ RelV (.ref D_InvalidLines) u := ⟨_, PySem.W.mg_of X G xa_InvalidLines, rfl⟩
  have g_InvalidRows : ∃ u, mg "InvalidRows" = some u ∧ RelV (.ref D_InvalidRows) u := ⟨_, PySem.W.mg_of X G xa_InvalidRows, rfl⟩
  have g_InvalidBids : ∃ u, mg "InvalidBids" = some u ∧ RelV (.ref D_InvalidBids) u := ⟨_, PySem.W.mg_of X G xa_InvalidBids, rfl⟩
  have g_InvalidChanges : ∃ u, mg "InvalidChanges" = some u ∧ RelV (.ref D_InvalidChanges) u := ⟨_, PySem.W.mg_of X G xa_InvalidChanges, rfl⟩
  have g_UnknownName : ∃ u, mg "UnknownName" = some u ∧ RelV (.ref D_UnknownName) u := ⟨_, PySem.W.mg_of X G xa_UnknownName, rfl⟩
  have g_InUse : ∃ u, mg "InUse" = some u ∧ RelV (.ref D_InUse) u := ⟨_, PySem.W.mg_of X G xa_InUse, rfl⟩
  have g_NothingToUndo : ∃ u, mg "NothingToUndo" = some u ∧ RelV (.ref D_NothingToUndo) u := ⟨_, PySem.W.mg_of X G xa_NothingToUndo, rfl⟩
  have g_Broken : ∃ u, mg "Broken" = some u ∧ RelV (.ref D_Broken) u := ⟨_, PySem.W.mg_of X G xa_Broken, rfl⟩
  have F_InvalidText___init__ := fun_mk (st := s_InvalidText___init__) l_InvalidText___init__ c_InvalidText___init__ k_InvalidText___init__
  have b_InvalidText___init__ := F_InvalidText___init__.binds (ps := A_InvalidText___init__) fun _ _ _ _ _ _ us hl => match us, hl with | [_, _], _ => rfl
  have x_InvalidText : XcV l.prog w K mg base "InvalidText" D_InvalidText "given" := ⟨(⟨⟨_, _, _, _, _, _, _, _, _, _, _, _, _, _, _, xc_InvalidText, xr_InvalidText⟩, xs_InvalidText, xe_InvalidText, xt_InvalidText, xk_InvalidText⟩ : OexC K D_InvalidText).e, xg_InvalidText, ⟨_, _, _, a_InvalidText___init__, i_InvalidText___init__, ok_InvalidText F_InvalidText___init__, b_InvalidText___init__, fun s u v _ => .of_eq rfl, rfl⟩, PySem.W.mg_of X G xa_InvalidText⟩
  have F_InvalidName___init__ := fun_mk (st := s_InvalidName___init__) l_InvalidName___init__ c_InvalidName___init__ k_InvalidName___init__
  have b_InvalidName___init__ := F_InvalidName___init__.binds (ps := A_InvalidName___init__) fun _ _ _ _ _ _ us hl => match us, hl with | [_, _], _ => rfl
  have x_InvalidName : XcV l.prog w K mg base "InvalidName" D_InvalidName "given" := ⟨(⟨⟨_, _, _, _, _, _, _, _, _, _, _, _, _, _, _, xc_InvalidName, xr_InvalidName⟩, xs_InvalidName, xe_InvalidName, xt_InvalidName, xk_InvalidName⟩ : OexC K D_InvalidName).e, xg_InvalidName, ⟨_, _, _, a_InvalidName___init__, i_InvalidName___init__, ok_InvalidName F_InvalidName___init__, b_InvalidName___init__, fun s u v _ => .of_eq rfl, rfl⟩, PySem.W.mg_of X G xa_InvalidName⟩
  have F_InvalidNumber___init__ := fun_mk (st := s_InvalidNumber___init__) l_InvalidNumber___init__ c_InvalidNumber___init__ k_InvalidNumber___init__
  have b_InvalidNumber___init__ := F_InvalidNumber___init__.binds (ps := A_InvalidNumber___init__) fun _ _ _ _ _ _ us hl => match us, hl with | [_, _], _ => rfl
  have x_InvalidNumber : XcV l.prog w K mg base "InvalidNumber" D_InvalidNumber "given" := ⟨(⟨⟨_, _, _, _, _, _, _, _, _, _, _, _, _, _, _, xc_InvalidNumber, xr_InvalidNumber⟩, xs_InvalidNumber, xe_InvalidNumber, xt_InvalidNumber, xk_InvalidNumber⟩ : OexC K D_InvalidNumber).e, xg_InvalidNumber, ⟨_, _, _, a_InvalidNumber___init__, i_InvalidNumber___init__, ok_InvalidNumber F_InvalidNumber___init__, b_InvalidNumber___init__, fun s u v _ => .of_eq rfl, rfl⟩, PySem.W.mg_of X G xa_InvalidNumber⟩
  have F_InvalidQuestion___init__ := fun_mk (st := s_InvalidQuestion___init__) l_InvalidQuestion___init__ c_InvalidQuestion___init__ k_InvalidQuestion___init__
  have b_InvalidQuestion___init__ := F_InvalidQuestion___init__.binds (ps := A_InvalidQuestion___init__) fun _ _ _ _ _ _ us hl => match us, hl with | [_, _], _ => rfl
  have x_InvalidQuestion : XcV l.prog w K mg base "InvalidQuestion" D_InvalidQuestion "given" := ⟨(⟨⟨_, _, _, _, _, _, _, _, _, _, _, _, _, _, _, xc_InvalidQuestion, xr_InvalidQuestion⟩, xs_InvalidQuestion, xe_InvalidQuestion, xt_InvalidQuestion, xk_InvalidQuestion⟩ : OexC K D_InvalidQuestion).e, xg_InvalidQuestion, ⟨_, _, _, a_InvalidQuestion___init__, i_InvalidQuestion___init__, ok_InvalidQuestion F_InvalidQuestion___init__, b_InvalidQuestion___init__, fun s u v _ => .of_eq rfl, rfl⟩, PySem.W.mg_of X G xa_InvalidQuestion⟩
  have F_InvalidCase___init__ := fun_mk (st := s_InvalidCase___init__) l_InvalidCase___init__ c_InvalidCase___init__ k_InvalidCase___init__
  have b_InvalidCase___init__ := F_InvalidCase___init__.binds (ps := A_InvalidCase___init__) fun _ _ _ _ _ _ us hl => match us, hl with | [_, _], _ => rfl
  have x_InvalidCase : XcV l.prog w K mg base "InvalidCase" D_InvalidCase "given" := ⟨(⟨⟨_, _, _, _, _, _, _, _, _, _, _, _, _, _, _, xc_InvalidCase, xr_InvalidCase⟩, xs_InvalidCase, xe_InvalidCase, xt_InvalidCase, xk_InvalidCase⟩ : OexC K D_InvalidCase).e, xg_InvalidCase, ⟨_, _, _, a_InvalidCase___init__, i_InvalidCase___init__, ok_InvalidCase F_InvalidCase___init__, b_InvalidCase___init__, fun s u v _ => .of_eq rfl, rfl⟩, PySem.W.mg_of X G xa_InvalidCase⟩
  have F_InvalidChange___init__ := fun_mk (st := s_InvalidChange___init__) l_InvalidChange___init__ c_InvalidChange___init__ k_InvalidChange___init__
  have b_InvalidChange___init__ := F_InvalidChange___init__.binds (ps := A_InvalidChange___init__) fun _ _ _ _ _ _ us hl => match us, hl with | [_, _], _ => rfl
  have x_InvalidChange : XcV l.prog w K mg base "InvalidChange" D_InvalidChange "given" := ⟨(⟨⟨_, _, _, _, _, _, _, _, _, _, _, _, _, _, _, xc_InvalidChange, xr_InvalidChange⟩, xs_InvalidChange, xe_InvalidChange, xt_InvalidChange, xk_InvalidChange⟩ : OexC K D_InvalidChange).e, xg_InvalidChange, ⟨_, _, _, a_InvalidChange___init__, i_InvalidChange___init__, ok_InvalidChange F_InvalidChange___init__, b_InvalidChange___init__, fun s u v _ => .of_eq rfl, rfl⟩, PySem.W.mg_of X G xa_InvalidChange⟩
  have F_InvalidWish___init__ := fun_mk (st := s_InvalidWish___init__) l_InvalidWish___init__ c_InvalidWish___init__ k_InvalidWish___init__
  have b_InvalidWish___init__ := F_InvalidWish___init__.binds (ps := A_InvalidWish___init__) fun _ _ _ _ _ _ us hl => match us, hl with | [_, _], _ => rfl
  have x_InvalidWish : XcV l.prog w K mg base "InvalidWish" D_InvalidWish "given" := ⟨(⟨⟨_, _, _, _, _, _, _, _, _, _, _, _, _, _, _, xc_InvalidWish, xr_InvalidWish⟩, xs_InvalidWish, xe_InvalidWish, xt_InvalidWish, xk_InvalidWish⟩ : OexC K D_InvalidWish).e, xg_InvalidWish, ⟨_, _, _, a_InvalidWish___init__, i_InvalidWish___init__, ok_InvalidWish F_InvalidWish___init__, b_InvalidWish___init__, fun s u v _ => .of_eq rfl, rfl⟩, PySem.W.mg_of X G xa_InvalidWish⟩
  have F_InvalidIndex___init__ := fun_mk (st := s_InvalidIndex___init__) l_InvalidIndex___init__ c_InvalidIndex___init__ k_InvalidIndex___init__
  have b_InvalidIndex___init__ := F_InvalidIndex___init__.binds (ps := A_InvalidIndex___init__) fun _ _ _ _ _ _ us hl => match us, hl with | [_, _], _ => rfl
  have x_InvalidIndex : XcV l.prog w K mg base "InvalidIndex" D_InvalidIndex "given" := ⟨(⟨⟨_, _, _, _, _, _, _, _, _, _, _, _, _, _, _, xc_InvalidIndex, xr_InvalidIndex⟩, xs_InvalidIndex, xe_InvalidIndex, xt_InvalidIndex, xk_InvalidIndex⟩ : OexC K D_InvalidIndex).e, xg_InvalidIndex, ⟨_, _, _, a_InvalidIndex___init__, i_InvalidIndex___init__, ok_InvalidIndex F_InvalidIndex___init__, b_InvalidIndex___init__, fun s u v _ => .of_eq rfl, rfl⟩, PySem.W.mg_of X G xa_InvalidIndex⟩
  have F_NotARule___init__ := fun_mk (st := s_NotARule___init__) l_NotARule___init__ c_NotARule___init__ k_NotARule___init__
  have b_NotARule___init__ := F_NotARule___init__.binds (ps := A_NotARule___init__) fun _ _ _ _ _ _ us hl => match us, hl with | [_, _], _ => rfl
  have x_NotARule : XcV l.prog w K mg base "NotARule" D_NotARule "given" := ⟨(⟨⟨_, _, _, _, _, _, _, _, _, _, _, _, _, _, _, xc_NotARule, xr_NotARule⟩, xs_NotARule, xe_NotARule, xt_NotARule, xk_NotARule⟩ : OexC K D_NotARule).e, xg_NotARule, ⟨_, _, _, a_NotARule___init__, i_NotARule___init__, ok_NotARule F_NotARule___init__, b_NotARule___init__, fun s u v _ => .of_eq rfl, rfl⟩, PySem.W.mg_of X G xa_NotARule⟩
  have F_OtherSeats___init__ := fun_mk (st := s_OtherSeats___init__) l_OtherSeats___init__ c_OtherSeats___init__ k_OtherSeats___init__
  have b_OtherSeats___init__ := F_OtherSeats___init__.binds (ps := A_OtherSeats___init__) fun _ _ _ _ _ _ us hl => match us, hl with | [_, _], _ => rfl
  have x_OtherSeats : XcV l.prog w K mg base "OtherSeats" D_OtherSeats "given" := ⟨(⟨⟨_, _, _, _, _, _, _, _, _, _, _, _, _, _, _, xc_OtherSeats, xr_OtherSeats⟩, xs_OtherSeats, xe_OtherSeats, xt_OtherSeats, xk_OtherSeats⟩ : OexC K D_OtherSeats).e, xg_OtherSeats, ⟨_, _, _, a_OtherSeats___init__, i_OtherSeats___init__, ok_OtherSeats F_OtherSeats___init__, b_OtherSeats___init__, fun s u v _ => .of_eq rfl, rfl⟩, PySem.W.mg_of X G xa_OtherSeats⟩
  have F_InvalidSeats___init__ := fun_mk (st := s_InvalidSeats___init__) l_InvalidSeats___init__ c_InvalidSeats___init__ k_InvalidSeats___init__
  have b_InvalidSeats___init__ := F_InvalidSeats___init__.binds (ps := A_InvalidSeats___init__) fun _ _ _ _ _ _ us hl => match us, hl with | [_, _], _ => rfl
  have x_InvalidSeats : XcV l.prog w K mg base "InvalidSeats" D_InvalidSeats "index" := ⟨(⟨⟨_, _, _, _, _, _, _, _, _, _, _, _, _, _, _, xc_InvalidSeats, xr_InvalidSeats⟩, xs_InvalidSeats, xe_InvalidSeats, xt_InvalidSeats, xk_InvalidSeats⟩ : OexC K D_InvalidSeats).e, xi_InvalidSeats, ⟨_, _, _, a_InvalidSeats___init__, i_InvalidSeats___init__, ok_InvalidSeats F_InvalidSeats___init__, b_InvalidSeats___init__, fun s u v _ => .of_eq rfl, rfl⟩, PySem.W.mg_of X G xa_InvalidSeats⟩
  have F_InvalidLines___init__ := fun_mk (st := s_InvalidLines___init__) l_InvalidLines___init__ c_InvalidLines___init__ k_InvalidLines___init__
  have b_InvalidLines___init__ := F_InvalidLines___init__.binds (ps := A_InvalidLines___init__) fun _ _ _ _ _ _ us hl => match us, hl with | [_, _], _ => rfl
  have x_InvalidLines : XcV l.prog w K mg base "InvalidLines" D_InvalidLines "index" := ⟨(⟨⟨_, _, _, _, _, _, _, _, _, _, _, _, _, _, _, xc_InvalidLines, xr_InvalidLines⟩, xs_InvalidLines, xe_InvalidLines, xt_InvalidLines, xk_InvalidLines⟩ : OexC K D_InvalidLines).e, xi_InvalidLines, ⟨_, _, _, a_InvalidLines___init__, i_InvalidLines___init__, ok_InvalidLines F_InvalidLines___init__, b_InvalidLines___init__, fun s u v _ => .of_eq rfl, rfl⟩, PySem.W.mg_of X G xa_InvalidLines⟩
  have F_InvalidRows___init__ := fun_mk (st := s_InvalidRows___init__) l_InvalidRows___init__ c_InvalidRows___init__ k_InvalidRows___init__
  have b_InvalidRows___init__ := F_InvalidRows___init__.binds (ps := A_InvalidRows___init__) fun _ _ _ _ _ _ us hl => match us, hl with | [_, _], _ => rfl
  have x_InvalidRows : XcV l.prog w K mg base "InvalidRows" D_InvalidRows "index" := ⟨(⟨⟨_, _, _, _, _, _, _, _, _, _, _, _, _, _, _, xc_InvalidRows, xr_InvalidRows⟩, xs_InvalidRows, xe_InvalidRows, xt_InvalidRows, xk_InvalidRows⟩ : OexC K D_InvalidRows).e, xi_InvalidRows, ⟨_, _, _, a_InvalidRows___init__, i_InvalidRows___init__, ok_InvalidRows F_InvalidRows___init__, b_InvalidRows___init__, fun s u v _ => .of_eq rfl, rfl⟩, PySem.W.mg_of X G xa_InvalidRows⟩
  have F_InvalidBids___init__ := fun_mk (st := s_InvalidBids___init__) l_InvalidBids___init__ c_InvalidBids___init__ k_InvalidBids___init__
  have b_InvalidBids___init__ := F_InvalidBids___init__.binds (ps := A_InvalidBids___init__) fun _ _ _ _ _ _ us hl => match us, hl with | [_, _], _ => rfl
  have x_InvalidBids : XcV l.prog w K mg base "InvalidBids" D_InvalidBids "index" := ⟨(⟨⟨_, _, _, _, _, _, _, _, _, _, _, _, _, _, _, xc_InvalidBids, xr_InvalidBids⟩, xs_InvalidBids, xe_InvalidBids, xt_InvalidBids, xk_InvalidBids⟩ : OexC K D_InvalidBids).e, xi_InvalidBids, ⟨_, _, _, a_InvalidBids___init__, i_InvalidBids___init__, ok_InvalidBids F_InvalidBids___init__, b_InvalidBids___init__, fun s u v _ => .of_eq rfl, rfl⟩, PySem.W.mg_of X G xa_InvalidBids⟩
  have F_InvalidChanges___init__ := fun_mk (st := s_InvalidChanges___init__) l_InvalidChanges___init__ c_InvalidChanges___init__ k_InvalidChanges___init__
  have b_InvalidChanges___init__ := F_InvalidChanges___init__.binds (ps := A_InvalidChanges___init__) fun _ _ _ _ _ _ us hl => match us, hl with | [_, _], _ => rfl
  have x_InvalidChanges : XcV l.prog w K mg base "InvalidChanges" D_InvalidChanges "index" := ⟨(⟨⟨_, _, _, _, _, _, _, _, _, _, _, _, _, _, _, xc_InvalidChanges, xr_InvalidChanges⟩, xs_InvalidChanges, xe_InvalidChanges, xt_InvalidChanges, xk_InvalidChanges⟩ : OexC K D_InvalidChanges).e, xi_InvalidChanges, ⟨_, _, _, a_InvalidChanges___init__, i_InvalidChanges___init__, ok_InvalidChanges F_InvalidChanges___init__, b_InvalidChanges___init__, fun s u v _ => .of_eq rfl, rfl⟩, PySem.W.mg_of X G xa_InvalidChanges⟩
  have F_UnknownName___init__ := fun_mk (st := s_UnknownName___init__) l_UnknownName___init__ c_UnknownName___init__ k_UnknownName___init__
  have b_UnknownName___init__ := F_UnknownName___init__.binds (ps := A_UnknownName___init__) fun _ _ _ _ _ _ us hl => match us, hl with | [_, _], _ => rfl
  have x_UnknownName : XcV l.prog w K mg base "UnknownName" D_UnknownName "given" := ⟨oexL xc_UnknownName xr_UnknownName xs_UnknownName xe_UnknownName xt_UnknownName xk_UnknownName, xg_UnknownName, ⟨_, _, _, a_UnknownName___init__, i_UnknownName___init__, ok_UnknownName F_UnknownName___init__, b_UnknownName___init__, fun s u v _ => .of_eq rfl, rfl⟩, PySem.W.mg_of X G xa_UnknownName⟩
  have F_InUse___init__ := fun_mk (st := s_InUse___init__) l_InUse___init__ c_InUse___init__ k_InUse___init__
  have b_InUse___init__ := F_InUse___init__.binds (ps := A_InUse___init__) fun _ _ _ _ _ _ us hl => match us, hl with | [_, _], _ => rfl
  have x_InUse : XcV l.prog w K mg base "InUse" D_InUse "index" := ⟨oexL xc_InUse xr_InUse xs_InUse xe_InUse xt_InUse xk_InUse, xi_InUse, ⟨_, _, _, a_InUse___init__, i_InUse___init__, ok_InUse F_InUse___init__, b_InUse___init__, fun s u v _ => .of_eq rfl, rfl⟩, PySem.W.mg_of X G xa_InUse⟩
  have F_Broken___init__ := fun_mk (st := s_Broken___init__) l_Broken___init__ c_Broken___init__ k_Broken___init__
  have b_Broken___init__ := F_Broken___init__.binds (ps := A_Broken___init__) fun _ _ _ _ _ _ us hl => match us, hl with | [_, _], _ => rfl
  have x_Broken : XcV l.prog w K mg base "Broken" D_Broken "index" := ⟨oexA xc_Broken xr_Broken xs_Broken xe_Broken xt_Broken xk_Broken, xi_Broken, ⟨_, _, _, a_Broken___init__, i_Broken___init__, ok_Broken F_Broken___init__, b_Broken___init__, fun s u v _ => .of_eq rfl, rfl⟩, PySem.W.mg_of X G xa_Broken⟩
  have x_NothingToUndo : XcN K mg "NothingToUndo" D_NothingToUndo := ⟨⟨_, _, _, _, F.excBase_ArithmeticError, xn_NothingToUndo⟩, xk_NothingToUndo, PySem.W.mg_of X G xa_NothingToUndo⟩
  have ki : KiV K [D_InvalidText, D_InvalidName, D_InvalidNumber, D_InvalidQuestion, D_InvalidCase, D_InvalidChange, D_InvalidWish, D_InvalidIndex, D_NotARule, D_OtherSeats, D_InvalidSeats, D_InvalidLines, D_InvalidRows, D_InvalidBids, D_InvalidChanges, D_UnknownName, D_InUse, D_NothingToUndo, D_Broken] D_BadValue D_BadName D_NoAnswer := kiB_ok rfl ki_
  have ex : ∀ C ∈ [D_InvalidText, D_InvalidName, D_InvalidNumber, D_InvalidQuestion, D_InvalidCase, D_InvalidChange, D_InvalidWish, D_InvalidIndex, D_NotARule, D_OtherSeats, D_InvalidSeats, D_InvalidLines, D_InvalidRows, D_InvalidBids, D_InvalidChanges, D_UnknownName, D_InUse, D_NothingToUndo, D_Broken], ExcC K.fr C := fun C hC => by
    simp only [List.mem_cons, List.not_mem_nil, or_false] at hC
    rcases hC with rfl | rfl | rfl | rfl | rfl | rfl | rfl | rfl | rfl | rfl | rfl | rfl | rfl | rfl | rfl | rfl | rfl | rfl | rfl
    · exact ⟨xga_InvalidText, xgg_InvalidText, xe_InvalidText, xhd_InvalidText, xcl_InvalidText, xq_hn, xq_ht, xmo_InvalidText⟩
    · exact ⟨xga_InvalidName, xgg_InvalidName, xe_InvalidName, xhd_InvalidName, xcl_InvalidName, xq_hn, xq_ht, xmo_InvalidName⟩
    · exact ⟨xga_InvalidNumber, xgg_InvalidNumber, xe_InvalidNumber, xhd_InvalidNumber, xcl_InvalidNumber, xq_hn, xq_ht, xmo_InvalidNumber⟩
    · exact ⟨xga_InvalidQuestion, xgg_InvalidQuestion, xe_InvalidQuestion, xhd_InvalidQuestion, xcl_InvalidQuestion, xq_hn, xq_ht, xmo_InvalidQuestion⟩
    · exact ⟨xga_InvalidCase, xgg_InvalidCase, xe_InvalidCase, xhd_InvalidCase, xcl_InvalidCase, xq_hn, xq_ht, xmo_InvalidCase⟩
    · exact ⟨xga_InvalidChange, xgg_InvalidChange, xe_InvalidChange, xhd_InvalidChange, xcl_InvalidChange, xq_hn, xq_ht, xmo_InvalidChange⟩
    · exact ⟨xga_InvalidWish, xgg_InvalidWish, xe_InvalidWish, xhd_InvalidWish, xcl_InvalidWish, xq_hn, xq_ht, xmo_InvalidWish⟩
    · exact ⟨xga_InvalidIndex, xgg_InvalidIndex, xe_InvalidIndex, xhd_InvalidIndex, xcl_InvalidIndex, xq_hn, xq_ht, xmo_InvalidIndex⟩
    · exact ⟨xga_NotARule, xgg_NotARule, xe_NotARule, xhd_NotARule, xcl_NotARule, xq_hn, xq_ht, xmo_NotARule⟩
    · exact ⟨xga_OtherSeats, xgg_OtherSeats, xe_OtherSeats, xhd_OtherSeats, xcl_OtherSeats, xq_hn, xq_ht, xmo_OtherSeats⟩
    · exact ⟨xga_InvalidSeats, xgg_InvalidSeats, xe_InvalidSeats, xhd_InvalidSeats, xcl_InvalidSeats, xq_hn, xq_ht, xmo_InvalidSeats⟩
    · exact ⟨xga_InvalidLines, xgg_InvalidLines, xe_InvalidLines, xhd_InvalidLines, xcl_InvalidLines, xq_hn, xq_ht, xmo_InvalidLines⟩
    · exact ⟨xga_InvalidRows, xgg_InvalidRows, xe_InvalidRows, xhd_InvalidRows, xcl_InvalidRows, xq_hn, xq_ht, xmo_InvalidRows⟩
    · exact ⟨xga_InvalidBids, xgg_InvalidBids, xe_InvalidBids, xhd_InvalidBids, xcl_InvalidBids, xq_hn, xq_ht, xmo_InvalidBids⟩
    · exact ⟨xga_InvalidChanges, xgg_InvalidChanges, xe_InvalidChanges, xhd_InvalidChanges, xcl_InvalidChanges, xq_hn, xq_ht, xmo_InvalidChanges⟩
    · exact ⟨xga_UnknownName, xgg_UnknownName, xe_UnknownName, xhd_UnknownName, xcl_UnknownName, xq_hn, xq_ht, xmo_UnknownName⟩
    · exact ⟨xga_InUse, xgg_InUse, xe_InUse, xhd_InUse, xcl_InUse, xq_hn, xq_ht, xmo_InUse⟩
    · exact ⟨xga_NothingToUndo, xgg_NothingToUndo, xe_NothingToUndo, xhd_NothingToUndo, xcl_NothingToUndo, xq_hn, xq_ht, xmo_NothingToUndo⟩
    · exact ⟨xga_Broken, xgg_Broken, xe_Broken, xhd_Broken, xcl_Broken, xq_hn, xq_ht, xmo_Broken⟩
  have xaG : ∀ C ∈ [D_InvalidText, D_InvalidName, D_InvalidNumber, D_InvalidQuestion, D_InvalidCase, D_InvalidChange, D_InvalidWish, D_InvalidIndex, D_NotARule, D_OtherSeats, D_InvalidSeats, D_InvalidLines, D_InvalidRows, D_InvalidBids, D_InvalidChanges, D_UnknownName, D_InUse, D_NothingToUndo, D_Broken], XfC K.fr C ∧ PySem.W.findIn K.fr (.ref C) sGiven = some none := fun C hC => by
    simp only [List.mem_cons, List.not_mem_nil, or_false] at hC
    rcases hC with rfl | rfl | rfl | rfl | rfl | rfl | rfl | rfl | rfl | rfl | rfl | rfl | rfl | rfl | rfl | rfl | rfl | rfl | rfl
    · exact ⟨⟨xga_InvalidText, xgg_InvalidText, xe_InvalidText, xhd_InvalidText⟩, xg_InvalidText⟩
    · exact ⟨⟨xga_InvalidName, xgg_InvalidName, xe_InvalidName, xhd_InvalidName⟩, xg_InvalidName⟩
    · exact ⟨⟨xga_InvalidNumber, xgg_InvalidNumber, xe_InvalidNumber, xhd_InvalidNumber⟩, xg_InvalidNumber⟩
    · exact ⟨⟨xga_InvalidQuestion, xgg_InvalidQuestion, xe_InvalidQuestion, xhd_InvalidQuestion⟩, xg_InvalidQuestion⟩
    · exact ⟨⟨xga_InvalidCase, xgg_InvalidCase, xe_InvalidCase, xhd_InvalidCase⟩, xg_InvalidCase⟩
    · exact ⟨⟨xga_InvalidChange, xgg_InvalidChange, xe_InvalidChange, xhd_InvalidChange⟩, xg_InvalidChange⟩
    · exact ⟨⟨xga_InvalidWish, xgg_InvalidWish, xe_InvalidWish, xhd_InvalidWish⟩, xg_InvalidWish⟩
    · exact ⟨⟨xga_InvalidIndex, xgg_InvalidIndex, xe_InvalidIndex, xhd_InvalidIndex⟩, xg_InvalidIndex⟩
    · exact ⟨⟨xga_NotARule, xgg_NotARule, xe_NotARule, xhd_NotARule⟩, xg_NotARule⟩
    · exact ⟨⟨xga_OtherSeats, xgg_OtherSeats, xe_OtherSeats, xhd_OtherSeats⟩, xg_OtherSeats⟩
    · exact ⟨⟨xga_InvalidSeats, xgg_InvalidSeats, xe_InvalidSeats, xhd_InvalidSeats⟩, xg_InvalidSeats⟩
    · exact ⟨⟨xga_InvalidLines, xgg_InvalidLines, xe_InvalidLines, xhd_InvalidLines⟩, xg_InvalidLines⟩
    · exact ⟨⟨xga_InvalidRows, xgg_InvalidRows, xe_InvalidRows, xhd_InvalidRows⟩, xg_InvalidRows⟩
    · exact ⟨⟨xga_InvalidBids, xgg_InvalidBids, xe_InvalidBids, xhd_InvalidBids⟩, xg_InvalidBids⟩
    · exact ⟨⟨xga_InvalidChanges, xgg_InvalidChanges, xe_InvalidChanges, xhd_InvalidChanges⟩, xg_InvalidChanges⟩
    · exact ⟨⟨xga_UnknownName, xgg_UnknownName, xe_UnknownName, xhd_UnknownName⟩, xg_UnknownName⟩
    · exact ⟨⟨xga_InUse, xgg_InUse, xe_InUse, xhd_InUse⟩, xg_InUse⟩
    · exact ⟨⟨xga_NothingToUndo, xgg_NothingToUndo, xe_NothingToUndo, xhd_NothingToUndo⟩, xg_NothingToUndo⟩
    · exact ⟨⟨xga_Broken, xgg_Broken, xe_Broken, xhd_Broken⟩, xg_Broken⟩
  have xaI : ∀ C ∈ [D_InvalidText, D_InvalidName, D_InvalidNumber, D_InvalidQuestion, D_InvalidCase, D_InvalidChange, D_InvalidWish, D_InvalidIndex, D_NotARule, D_OtherSeats, D_InvalidSeats, D_InvalidLines, D_InvalidRows, D_InvalidBids, D_InvalidChanges, D_UnknownName, D_InUse, D_NothingToUndo, D_Broken], XfC K.fr C ∧ PySem.W.findIn K.fr (.ref C) sIndex = some none := fun C hC => by
    simp only [List.mem_cons, List.not_mem_nil, or_false] at hC
    rcases hC with rfl | rfl | rfl | rfl | rfl | rfl | rfl | rfl | rfl | rfl | rfl | rfl | rfl | rfl | rfl | rfl | rfl | rfl | rfl
    · exact ⟨⟨xga_InvalidText, xgg_InvalidText, xe_InvalidText, xhd_InvalidText⟩, xi_InvalidText⟩
    · exact ⟨⟨xga_InvalidName, xgg_InvalidName, xe_InvalidName, xhd_InvalidName⟩, xi_InvalidName⟩
    · exact ⟨⟨xga_InvalidNumber, xgg_InvalidNumber, xe_InvalidNumber, xhd_InvalidNumber⟩, xi_InvalidNumber⟩
    · exact ⟨⟨xga_InvalidQuestion, xgg_InvalidQuestion, xe_InvalidQuestion, xhd_InvalidQuestion⟩, xi_InvalidQuestion⟩
    · exact ⟨⟨xga_InvalidCase, xgg_InvalidCase, xe_InvalidCase, xhd_InvalidCase⟩, xi_InvalidCase⟩
    · exact ⟨⟨xga_InvalidChange, xgg_InvalidChange, xe_InvalidChange, xhd_InvalidChange⟩, xi_InvalidChange⟩
    · exact ⟨⟨xga_InvalidWish, xgg_InvalidWish, xe_InvalidWish, xhd_InvalidWish⟩, xi_InvalidWish⟩
    · exact ⟨⟨xga_InvalidIndex, xgg_InvalidIndex, xe_InvalidIndex, xhd_InvalidIndex⟩, xi_InvalidIndex⟩
    · exact ⟨⟨xga_NotARule, xgg_NotARule, xe_NotARule, xhd_NotARule⟩, xi_NotARule⟩
    · exact ⟨⟨xga_OtherSeats, xgg_OtherSeats, xe_OtherSeats, xhd_OtherSeats⟩, xi_OtherSeats⟩
    · exact ⟨⟨xga_InvalidSeats, xgg_InvalidSeats, xe_InvalidSeats, xhd_InvalidSeats⟩, xi_InvalidSeats⟩
    · exact ⟨⟨xga_InvalidLines, xgg_InvalidLines, xe_InvalidLines, xhd_InvalidLines⟩, xi_InvalidLines⟩
    · exact ⟨⟨xga_InvalidRows, xgg_InvalidRows, xe_InvalidRows, xhd_InvalidRows⟩, xi_InvalidRows⟩
    · exact ⟨⟨xga_InvalidBids, xgg_InvalidBids, xe_InvalidBids, xhd_InvalidBids⟩, xi_InvalidBids⟩
    · exact ⟨⟨xga_InvalidChanges, xgg_InvalidChanges, xe_InvalidChanges, xhd_InvalidChanges⟩, xi_InvalidChanges⟩
    · exact ⟨⟨xga_UnknownName, xgg_UnknownName, xe_UnknownName, xhd_UnknownName⟩, xi_UnknownName⟩
    · exact ⟨⟨xga_InUse, xgg_InUse, xe_InUse, xhd_InUse⟩, xi_InUse⟩
    · exact ⟨⟨xga_NothingToUndo, xgg_NothingToUndo, xe_NothingToUndo, xhd_NothingToUndo⟩, xi_NothingToUndo⟩
    · exact ⟨⟨xga_Broken, xgg_Broken, xe_Broken, xhd_Broken⟩, xi_Broken⟩
  have C__law_source : Cal l.prog w K mg base 1 "_law_source" (sp_source K) := ⟨_, _, _, ok__law_source F__law_source B, PySem.W.mg_of X G a__law_source, k__law_source, b__law_source⟩
  have C__law_take : Cal l.prog w K mg base 1 "_law_take" (sp_take K) := ⟨_, _, _, ok__law_take F__law_take B, PySem.W.mg_of X G a__law_take, k__law_take, b__law_take⟩
  have C__law_odd : Cal l.prog w K mg base 2 "_law_odd" (sp_odd K) := ⟨_, _, _, ok__law_odd F__law_odd B C__law_take, PySem.W.mg_of X G a__law_odd, k__law_odd, b__law_odd⟩
  have C__law_sorts : Cal l.prog w K mg base 1 "_law_sorts" (sp_sorts K [D_InvalidText, D_InvalidName, D_InvalidNumber, D_InvalidQuestion, D_InvalidCase, D_InvalidChange, D_InvalidWish, D_InvalidIndex, D_NotARule, D_OtherSeats, D_InvalidSeats, D_InvalidLines, D_InvalidRows, D_InvalidBids, D_InvalidChanges, D_UnknownName, D_InUse, D_NothingToUndo, D_Broken]) := ⟨_, _, _, ok__law_sorts F__law_sorts B rfl ki ex g_InvalidText g_InvalidName g_InvalidNumber g_InvalidQuestion g_InvalidCase g_InvalidChange g_InvalidWish g_InvalidIndex g_NotARule g_OtherSeats g_InvalidSeats g_InvalidLines g_InvalidRows g_InvalidBids g_InvalidChanges g_UnknownName g_InUse g_NothingToUndo g_Broken, PySem.W.mg_of X G a__law_sorts, k__law_sorts, b__law_sorts⟩
  have C__law_placed : Cal l.prog w K mg base 3 "_law_placed" (sp_placed K [D_InvalidText, D_InvalidName, D_InvalidNumber, D_InvalidQuestion, D_InvalidCase, D_InvalidChange, D_InvalidWish, D_InvalidIndex, D_NotARule, D_OtherSeats, D_InvalidSeats, D_InvalidLines, D_InvalidRows, D_InvalidBids, D_InvalidChanges, D_UnknownName, D_InUse, D_NothingToUndo, D_Broken]) := ⟨_, _, _, ok__law_placed F__law_placed B rfl x_InvalidText x_InvalidName x_InvalidNumber x_InvalidQuestion x_InvalidCase x_InvalidChange x_InvalidWish x_InvalidIndex x_NotARule x_OtherSeats x_InvalidSeats x_InvalidLines x_InvalidRows x_InvalidBids x_InvalidChanges x_UnknownName x_InUse x_NothingToUndo x_Broken, PySem.W.mg_of X G a__law_placed, k__law_placed, b__law_placed⟩
  have C__law_named : Cal l.prog w K mg base 3 "_law_named" (sp_placed K [D_InvalidText, D_InvalidName, D_InvalidNumber, D_InvalidQuestion, D_InvalidCase, D_InvalidChange, D_InvalidWish, D_InvalidIndex, D_NotARule, D_OtherSeats, D_InvalidSeats, D_InvalidLines, D_InvalidRows, D_InvalidBids, D_InvalidChanges, D_UnknownName, D_InUse, D_NothingToUndo, D_Broken]) := ⟨_, _, _, ok__law_named F__law_named B rfl x_InvalidText x_InvalidName x_InvalidNumber x_InvalidQuestion x_InvalidCase x_InvalidChange x_InvalidWish x_InvalidIndex x_NotARule x_OtherSeats x_InvalidSeats x_InvalidLines x_InvalidRows x_InvalidBids x_InvalidChanges x_UnknownName x_InUse x_NothingToUndo x_Broken, PySem.W.mg_of X G a__law_named, k__law_named, b__law_named⟩
  have C__law_is_right : CalG l.prog w K mg base 2 "_law_is_right" (sp_isright K [D_InvalidText, D_InvalidName, D_InvalidNumber, D_InvalidQuestion, D_InvalidCase, D_InvalidChange, D_InvalidWish, D_InvalidIndex, D_NotARule, D_OtherSeats, D_InvalidSeats, D_InvalidLines, D_InvalidRows, D_InvalidBids, D_InvalidChanges, D_UnknownName, D_InUse, D_NothingToUndo, D_Broken]) := ⟨_, _, _, ok__law_is_right F__law_is_right B ki ex xaG xaI g_BadValue g_BadName g_NoAnswer C__law_sorts, PySem.W.mg_of X G a__law_is_right, k__law_is_right, b__law_is_right⟩
  have C__law_right : CalG l.prog w K mg base 4 "_law_right" (sp_right K) := ⟨_, _, _, ok__law_right F__law_right B C__law_odd C__law_placed C__law_named C__law_is_right, PySem.W.mg_of X G a__law_right, k__law_right, b__law_right⟩
  exact ok_law01 F_law B C__law_source C__law_right (by decide)
set_option maxHeartbeats 1000000 in
theorem all_mkT {l : PySem.W.OpenLaw} {w : World} {K : PySem.W.Frag} {h : Heap} {mg : Str → Option Value} {fa : Addr} (X : K.In h) (G : h.Ns mainGlobals mg) (hfa : mg "law" = some (.ref fa))
    {od__law_source an__law_source : Option Addr} {sl__law_source : Array (Option Value)} {oc__law_source kV__law_source dc__law_source pm__law_source cd__law_source ct__law_source : Value} {f__law_source : Addr}
    {od__law_take an__law_take : Option Addr} {sl__law_take : Array (Option Value)} {oc__law_take kV__law_take dc__law_take pm__law_take cd__law_take ct__law_take : Value} {f__law_take : Addr}
    {od__law_odd an__law_odd : Option Addr} {sl__law_odd : Array (Option Value)} {oc__law_odd kV__law_odd dc__law_odd pm__law_odd cd__law_odd ct__law_odd : Value} {f__law_odd : Addr}
    {od__law_sorts an__law_sorts : Option Addr} {sl__law_sorts : Array (Option Value)} {oc__law_sorts kV__law_sorts dc__law_sorts pm__law_sorts cd__law_sorts ct__law_sorts : Value} {f__law_sorts : Addr}
    {od__law_is_right an__law_is_right : Option Addr} {sl__law_is_right : Array (Option Value)} {oc__law_is_right kV__law_is_right dc__law_is_right pm__law_is_right cd__law_is_right ct__law_is_right : Value} {f__law_is_right : Addr}
    {od__law_placed an__law_placed : Option Addr} {sl__law_placed : Array (Option Value)} {oc__law_placed kV__law_placed dc__law_placed pm__law_placed cd__law_placed ct__law_placed : Value} {f__law_placed : Addr}
    {od__law_named an__law_named : Option Addr} {sl__law_named : Array (Option Value)} {oc__law_named kV__law_named dc__law_named pm__law_named cd__law_named ct__law_named : Value} {f__law_named : Addr}
    {od__law_right an__law_right : Option Addr} {sl__law_right : Array (Option Value)} {oc__law_right kV__law_right dc__law_right pm__law_right cd__law_right ct__law_right : Value} {f__law_right : Addr}
    {od_law an_law : Option Addr} {sl_law : Array (Option Value)} {oc_law kV_law dc_law pm_law cd_law ct_law : Value} {f_law : Addr}
    {tk_MOST_SEATS : Tok}
    {tk_MOST_LINES : Tok}
    {tk_MOST_ROWS : Tok}
    {tk_MOST_PARTS : Tok}
    {tk_MOST_RING : Tok}
    {tk_MOST_INTEGER : Tok}
    {tk_MOST_CHANGES : Tok}
    {D_BadValue : Addr}
    {D_BadName : Addr}
    {D_NoAnswer : Addr}
    {D_InvalidText : Addr}
    {D_InvalidName : Addr}
    {D_InvalidNumber : Addr}
    {D_InvalidQuestion : Addr}
    {D_InvalidCase : Addr}
    {D_InvalidChange : Addr}
    {D_InvalidWish : Addr}
    {D_InvalidIndex : Addr}
    {D_NotARule : Addr}
    {D_OtherSeats : Addr}
    {D_InvalidSeats : Addr}
    {D_InvalidLines : Addr}
    {D_InvalidRows : Addr}
    {D_InvalidBids : Addr}
    {D_InvalidChanges : Addr}
    {D_UnknownName : Addr}
    {D_InUse : Addr}
    {D_NothingToUndo : Addr}
    {D_Broken : Addr}
    {y_nm_InvalidText y_q_InvalidText : Str} {y_N_InvalidText : Addr} {y_bs_InvalidText y_bm_InvalidText : List Value} {y_sn_InvalidText : List Str} {y_sub_InvalidText : List Value} {y_ab_InvalidText : Bool} {y_col_InvalidText : Option Bool} {y_dd_InvalidText : Option Addr} {y_k0_InvalidText y_k1_InvalidText y_k2_InvalidText y_k3_InvalidText y_k5_InvalidText : Option Value}
    {od_InvalidText___init__ an_InvalidText___init__ : Option Addr} {sl_InvalidText___init__ : Array (Option Value)} {oc_InvalidText___init__ kV_InvalidText___init__ dc_InvalidText___init__ pm_InvalidText___init__ cd_InvalidText___init__ ct_InvalidText___init__ : Value} {f_InvalidText___init__ : Addr}
    {y_nm_InvalidName y_q_InvalidName : Str} {y_N_InvalidName : Addr} {y_bs_InvalidName y_bm_InvalidName : List Value} {y_sn_InvalidName : List Str} {y_sub_InvalidName : List Value} {y_ab_InvalidName : Bool} {y_col_InvalidName : Option Bool} {y_dd_InvalidName : Option Addr} {y_k0_InvalidName y_k1_InvalidName y_k2_InvalidName y_k3_InvalidName y_k5_InvalidName : Option Value}
    {od_InvalidName___init__ an_InvalidName___init__ : Option Addr} {sl_InvalidName___init__ : Array (Option Value)} {oc_InvalidName___init__ kV_InvalidName___init__ dc_InvalidName___init__ pm_InvalidName___init__ cd_InvalidName___init__ ct_InvalidName___init__ : Value} {f_InvalidName___init__ : Addr}
    {y_nm_InvalidNumber y_q_InvalidNumber : Str} {y_N_InvalidNumber : Addr} {y_bs_InvalidNumber y_bm_InvalidNumber : List Value} {y_sn_InvalidNumber : List Str} {y_sub_InvalidNumber : List Value} {y_ab_InvalidNumber : Bool} {y_col_InvalidNumber : Option Bool} {y_dd_InvalidNumber : Option Addr} {y_k0_InvalidNumber y_k1_InvalidNumber y_k2_InvalidNumber y_k3_InvalidNumber y_k5_InvalidNumber : Option Value}
    {od_InvalidNumber___init__ an_InvalidNumber___init__ : Option Addr} {sl_InvalidNumber___init__ : Array (Option Value)} {oc_InvalidNumber___init__ kV_InvalidNumber___init__ dc_InvalidNumber___init__ pm_InvalidNumber___init__ cd_InvalidNumber___init__ ct_InvalidNumber___init__ : Value} {f_InvalidNumber___init__ : Addr}
    {y_nm_InvalidQuestion y_q_InvalidQuestion : Str} {y_N_InvalidQuestion : Addr} {y_bs_InvalidQuestion y_bm_InvalidQuestion : List Value} {y_sn_InvalidQuestion : List Str} {y_sub_InvalidQuestion : List Value} {y_ab_InvalidQuestion : Bool} {y_col_InvalidQuestion : Option Bool} {y_dd_InvalidQuestion : Option Addr} {y_k0_InvalidQuestion y_k1_InvalidQuestion y_k2_InvalidQuestion y_k3_InvalidQuestion y_k5_InvalidQuestion : Option Value}
    {od_InvalidQuestion___init__ an_InvalidQuestion___init__ : Option Addr} {sl_InvalidQuestion___init__ : Array (Option Value)} {oc_InvalidQuestion___init__ kV_InvalidQuestion___init__ dc_InvalidQuestion___init__ pm_InvalidQuestion___init__ cd_InvalidQuestion___init__ ct_InvalidQuestion___init__ : Value} {f_InvalidQuestion___init__ : Addr}
    {y_nm_InvalidCase y_q_InvalidCase : Str} {y_N_InvalidCase : Addr} {y_bs_InvalidCase y_bm_InvalidCase : List Value} {y_sn_InvalidCase : List Str} {y_sub_InvalidCase : List Value} {y_ab_InvalidCase : Bool} {y_col_InvalidCase : Option Bool} {y_dd_InvalidCase : Option Addr} {y_k0_InvalidCase y_k1_InvalidCase y_k2_InvalidCase y_k3_InvalidCase y_k5_InvalidCase : Option Value}
    {od_InvalidCase___init__ an_InvalidCase___init__ : Option Addr} {sl_InvalidCase___init__ : Array (Option Value)} {oc_InvalidCase___init__ kV_InvalidCase___init__ dc_InvalidCase___init__ pm_InvalidCase___init__ cd_InvalidCase___init__ ct_InvalidCase___init__ : Value} {f_InvalidCase___init__ : Addr}
    {y_nm_InvalidChange y_q_InvalidChange : Str} {y_N_InvalidChange : Addr} {y_bs_InvalidChange y_bm_InvalidChange : List Value} {y_sn_InvalidChange : List Str} {y_sub_InvalidChange : List Value} {y_ab_InvalidChange : Bool} {y_col_InvalidChange : Option Bool} {y_dd_InvalidChange : Option Addr} {y_k0_InvalidChange y_k1_InvalidChange y_k2_InvalidChange y_k3_InvalidChange y_k5_InvalidChange : Option Value}
    {od_InvalidChange___init__ an_InvalidChange___init__ : Option Addr} {sl_InvalidChange___init__ : Array (Option Value)} {oc_InvalidChange___init__ kV_InvalidChange___init__ dc_InvalidChange___init__ pm_InvalidChange___init__ cd_InvalidChange___init__ ct_InvalidChange___init__ : Value} {f_InvalidChange___init__ : Addr}
    {y_nm_InvalidWish y_q_InvalidWish : Str} {y_N_InvalidWish : Addr} {y_bs_InvalidWish y_bm_InvalidWish : List Value} {y_sn_InvalidWish : List Str} {y_sub_InvalidWish : List Value} {y_ab_InvalidWish : Bool} {y_col_InvalidWish : Option Bool} {y_dd_InvalidWish : Option Addr} {y_k0_InvalidWish y_k1_InvalidWish y_k2_InvalidWish y_k3_InvalidWish y_k5_InvalidWish : Option Value}
    {od_InvalidWish___init__ an_InvalidWish___init__ : Option Addr} {sl_InvalidWish___init__ : Array (Option Value)} {oc_InvalidWish___init__ kV_InvalidWish___init__ dc_InvalidWish___init__ pm_InvalidWish___init__ cd_InvalidWish___init__ ct_InvalidWish___init__ : Value} {f_InvalidWish___init__ : Addr}
    {y_nm_InvalidIndex y_q_InvalidIndex : Str} {y_N_InvalidIndex : Addr} {y_bs_InvalidIndex y_bm_InvalidIndex : List Value} {y_sn_InvalidIndex : List Str} {y_sub_InvalidIndex : List Value} {y_ab_InvalidIndex : Bool} {y_col_InvalidIndex : Option Bool} {y_dd_InvalidIndex : Option Addr} {y_k0_InvalidIndex y_k1_InvalidIndex y_k2_InvalidIndex y_k3_InvalidIndex y_k5_InvalidIndex : Option Value}
    {od_InvalidIndex___init__ an_InvalidIndex___init__ : Option Addr} {sl_InvalidIndex___init__ : Array (Option Value)} {oc_InvalidIndex___init__ kV_InvalidIndex___init__ dc_InvalidIndex___init__ pm_InvalidIndex___init__ cd_InvalidIndex___init__ ct_InvalidIndex___init__ : Value} {f_InvalidIndex___init__ : Addr}
    {y_nm_NotARule y_q_NotARule : Str} {y_N_NotARule : Addr} {y_bs_NotARule y_bm_NotARule : List Value} {y_sn_NotARule : List Str} {y_sub_NotARule : List Value} {y_ab_NotARule : Bool} {y_col_NotARule : Option Bool} {y_dd_NotARule : Option Addr} {y_k0_NotARule y_k1_NotARule y_k2_NotARule y_k3_NotARule y_k5_NotARule : Option Value}
    {od_NotARule___init__ an_NotARule___init__ : Option Addr} {sl_NotARule___init__ : Array (Option Value)} {oc_NotARule___init__ kV_NotARule___init__ dc_NotARule___init__ pm_NotARule___init__ cd_NotARule___init__ ct_NotARule___init__ : Value} {f_NotARule___init__ : Addr}
    {y_nm_OtherSeats y_q_OtherSeats : Str} {y_N_OtherSeats : Addr} {y_bs_OtherSeats y_bm_OtherSeats : List Value} {y_sn_OtherSeats : List Str} {y_sub_OtherSeats : List Value} {y_ab_OtherSeats : Bool} {y_col_OtherSeats : Option Bool} {y_dd_OtherSeats : Option Addr} {y_k0_OtherSeats y_k1_OtherSeats y_k2_OtherSeats y_k3_OtherSeats y_k5_OtherSeats : Option Value}
    {od_OtherSeats___init__ an_OtherSeats___init__ : Option Addr} {sl_OtherSeats___init__ : Array (Option Value)} {oc_OtherSeats___init__ kV_OtherSeats___init__ dc_OtherSeats___init__ pm_OtherSeats___init__ cd_OtherSeats___init__ ct_OtherSeats___init__ : Value} {f_OtherSeats___init__ : Addr}
    {y_nm_InvalidSeats y_q_InvalidSeats : Str} {y_N_InvalidSeats : Addr} {y_bs_InvalidSeats y_bm_InvalidSeats : List Value} {y_sn_InvalidSeats : List Str} {y_sub_InvalidSeats : List Value} {y_ab_InvalidSeats : Bool} {y_col_InvalidSeats : Option Bool} {y_dd_InvalidSeats : Option Addr} {y_k0_InvalidSeats y_k1_InvalidSeats y_k2_InvalidSeats y_k3_InvalidSeats y_k5_InvalidSeats : Option Value}
    {od_InvalidSeats___init__ an_InvalidSeats___init__ : Option Addr} {sl_InvalidSeats___init__ : Array (Option Value)} {oc_InvalidSeats___init__ kV_InvalidSeats___init__ dc_InvalidSeats___init__ pm_InvalidSeats___init__ cd_InvalidSeats___init__ ct_InvalidSeats___init__ : Value} {f_InvalidSeats___init__ : Addr}
    {y_nm_InvalidLines y_q_InvalidLines : Str} {y_N_InvalidLines : Addr} {y_bs_InvalidLines y_bm_InvalidLines : List Value} {y_sn_InvalidLines : List Str} {y_sub_InvalidLines : List Value} {y_ab_InvalidLines : Bool} {y_col_InvalidLines : Option Bool} {y_dd_InvalidLines : Option Addr} {y_k0_InvalidLines y_k1_InvalidLines y_k2_InvalidLines y_k3_InvalidLines y_k5_InvalidLines : Option Value}
    {od_InvalidLines___init__ an_InvalidLines___init__ : Option Addr} {sl_InvalidLines___init__ : Array (Option Value)} {oc_InvalidLines___init__ kV_InvalidLines___init__ dc_InvalidLines___init__ pm_InvalidLines___init__ cd_InvalidLines___init__ ct_InvalidLines___init__ : Value} {f_InvalidLines___init__ : Addr}
    {y_nm_InvalidRows y_q_InvalidRows : Str} {y_N_InvalidRows : Addr} {y_bs_InvalidRows y_bm_InvalidRows : List Value} {y_sn_InvalidRows : List Str} {y_sub_InvalidRows : List Value} {y_ab_InvalidRows : Bool} {y_col_InvalidRows : Option Bool} {y_dd_InvalidRows : Option Addr} {y_k0_InvalidRows y_k1_InvalidRows y_k2_InvalidRows y_k3_InvalidRows y_k5_InvalidRows : Option Value}
    {od_InvalidRows___init__ an_InvalidRows___init__ : Option Addr} {sl_InvalidRows___init__ : Array (Option Value)} {oc_InvalidRows___init__ kV_InvalidRows___init__ dc_InvalidRows___init__ pm_InvalidRows___init__ cd_InvalidRows___init__ ct_InvalidRows___init__ : Value} {f_InvalidRows___init__ : Addr}
    {y_nm_InvalidBids y_q_InvalidBids : Str} {y_N_InvalidBids : Addr} {y_bs_InvalidBids y_bm_InvalidBids : List Value} {y_sn_InvalidBids : List Str} {y_sub_InvalidBids : List Value} {y_ab_InvalidBids : Bool} {y_col_InvalidBids : Option Bool} {y_dd_InvalidBids : Option Addr} {y_k0_InvalidBids y_k1_InvalidBids y_k2_InvalidBids y_k3_InvalidBids y_k5_InvalidBids : Option Value}
    {od_InvalidBids___init__ an_InvalidBids___init__ : Option Addr} {sl_InvalidBids___init__ : Array (Option Value)} {oc_InvalidBids___init__ kV_InvalidBids___init__ dc_InvalidBids___init__ pm_InvalidBids___init__ cd_InvalidBids___init__ ct_InvalidBids___init__ : Value} {f_InvalidBids___init__ : Addr}
    {y_nm_InvalidChanges y_q_InvalidChanges : Str} {y_N_InvalidChanges : Addr} {y_bs_InvalidChanges y_bm_InvalidChanges : List Value} {y_sn_InvalidChanges : List Str} {y_sub_InvalidChanges : List Value} {y_ab_InvalidChanges : Bool} {y_col_InvalidChanges : Option Bool} {y_dd_InvalidChanges : Option Addr} {y_k0_InvalidChanges y_k1_InvalidChanges y_k2_InvalidChanges y_k3_InvalidChanges y_k5_InvalidChanges : Option Value}
    {od_InvalidChanges___init__ an_InvalidChanges___init__ : Option Addr} {sl_InvalidChanges___init__ : Array (Option Value)} {oc_InvalidChanges___init__ kV_InvalidChanges___init__ dc_InvalidChanges___init__ pm_InvalidChanges___init__ cd_InvalidChanges___init__ ct_InvalidChanges___init__ : Value} {f_InvalidChanges___init__ : Addr}
    {y_nm_UnknownName y_q_UnknownName : Str} {y_N_UnknownName : Addr} {y_bs_UnknownName y_bm_UnknownName : List Value} {y_sn_UnknownName : List Str} {y_sub_UnknownName : List Value} {y_ab_UnknownName : Bool} {y_col_UnknownName : Option Bool} {y_dd_UnknownName : Option Addr} {y_k0_UnknownName y_k1_UnknownName y_k2_UnknownName y_k3_UnknownName y_k5_UnknownName : Option Value}
    {od_UnknownName___init__ an_UnknownName___init__ : Option Addr} {sl_UnknownName___init__ : Array (Option Value)} {oc_UnknownName___init__ kV_UnknownName___init__ dc_UnknownName___init__ pm_UnknownName___init__ cd_UnknownName___init__ ct_UnknownName___init__ : Value} {f_UnknownName___init__ : Addr}
    {y_nm_InUse y_q_InUse : Str} {y_N_InUse : Addr} {y_bs_InUse y_bm_InUse : List Value} {y_sn_InUse : List Str} {y_sub_InUse : List Value} {y_ab_InUse : Bool} {y_col_InUse : Option Bool} {y_dd_InUse : Option Addr} {y_k0_InUse y_k1_InUse y_k2_InUse y_k3_InUse y_k5_InUse : Option Value}
    {od_InUse___init__ an_InUse___init__ : Option Addr} {sl_InUse___init__ : Array (Option Value)} {oc_InUse___init__ kV_InUse___init__ dc_InUse___init__ pm_InUse___init__ cd_InUse___init__ ct_InUse___init__ : Value} {f_InUse___init__ : Addr}
    {y_nm_Broken y_q_Broken : Str} {y_N_Broken : Addr} {y_bs_Broken y_bm_Broken : List Value} {y_sn_Broken : List Str} {y_sub_Broken : List Value} {y_ab_Broken : Bool} {y_col_Broken : Option Bool} {y_dd_Broken : Option Addr} {y_k0_Broken y_k1_Broken y_k2_Broken y_k3_Broken y_k5_Broken : Option Value}
    {od_Broken___init__ an_Broken___init__ : Option Addr} {sl_Broken___init__ : Array (Option Value)} {oc_Broken___init__ kV_Broken___init__ dc_Broken___init__ pm_Broken___init__ cd_Broken___init__ ct_Broken___init__ : Value} {f_Broken___init__ : Addr}
    (a__law_source : PySem.W.nsIn K mainGlobals "_law_source" = some (some (.ref f__law_source)))
    (l__law_source : K.lookup f__law_source = some ⟨oc__law_source, od__law_source, .func (PySem.W.fnOf "_law_source" "_law_source" (defArgs s__law_source) (defBody s__law_source) (defScope s__law_source) .none kV__law_source dc__law_source pm__law_source an__law_source cd__law_source ct__law_source), sl__law_source⟩)
    (c__law_source : PySem.W.codeIn K cd__law_source "_law_source" = true)
    (k__law_source : PySem.W.keepIn K (.ref f__law_source) = true)
    (a__law_take : PySem.W.nsIn K mainGlobals "_law_take" = some (some (.ref f__law_take)))
    (l__law_take : K.lookup f__law_take = some ⟨oc__law_take, od__law_take, .func (PySem.W.fnOf "_law_take" "_law_take" (defArgs s__law_take) (defBody s__law_take) (defScope s__law_take) .none kV__law_take dc__law_take pm__law_take an__law_take cd__law_take ct__law_take), sl__law_take⟩)
    (c__law_take : PySem.W.codeIn K cd__law_take "_law_take" = true)
    (k__law_take : PySem.W.keepIn K (.ref f__law_take) = true)
    (a__law_odd : PySem.W.nsIn K mainGlobals "_law_odd" = some (some (.ref f__law_odd)))
    (l__law_odd : K.lookup f__law_odd = some ⟨oc__law_odd, od__law_odd, .func (PySem.W.fnOf "_law_odd" "_law_odd" (defArgs s__law_odd) (defBody s__law_odd) (defScope s__law_odd) .none kV__law_odd dc__law_odd pm__law_odd an__law_odd cd__law_odd ct__law_odd), sl__law_odd⟩)
    (c__law_odd : PySem.W.codeIn K cd__law_odd "_law_odd" = true)
    (k__law_odd : PySem.W.keepIn K (.ref f__law_odd) = true)
    (a__law_sorts : PySem.W.nsIn K mainGlobals "_law_sorts" = some (some (.ref f__law_sorts)))
    (l__law_sorts : K.lookup f__law_sorts = some ⟨oc__law_sorts, od__law_sorts, .func (PySem.W.fnOf "_law_sorts" "_law_sorts" (defArgs s__law_sorts) (defBody s__law_sorts) (defScope s__law_sorts) .none kV__law_sorts dc__law_sorts pm__law_sorts an__law_sorts cd__law_sorts ct__law_sorts), sl__law_sorts⟩)
    (c__law_sorts : PySem.W.codeIn K cd__law_sorts "_law_sorts" = true)
    (k__law_sorts : PySem.W.keepIn K (.ref f__law_sorts) = true)
    (a__law_is_right : PySem.W.nsIn K mainGlobals "_law_is_right" = some (some (.ref f__law_is_right)))
    (l__law_is_right : K.lookup f__law_is_right = some ⟨oc__law_is_right, od__law_is_right, .func (PySem.W.fnOf "_law_is_right" "_law_is_right" (defArgs s__law_is_right) (defBody s__law_is_right) (defScope s__law_is_right) .none kV__law_is_right dc__law_is_right pm__law_is_right an__law_is_right cd__law_is_right ct__law_is_right), sl__law_is_right⟩)
    (c__law_is_right : PySem.W.codeIn K cd__law_is_right "_law_is_right" = true)
    (k__law_is_right : PySem.W.keepIn K (.ref f__law_is_right) = true)
    (a__law_placed : PySem.W.nsIn K mainGlobals "_law_placed" = some (some (.ref f__law_placed)))
    (l__law_placed : K.lookup f__law_placed = some ⟨oc__law_placed, od__law_placed, .func (PySem.W.fnOf "_law_placed" "_law_placed" (defArgs s__law_placed) (defBody s__law_placed) (defScope s__law_placed) .none kV__law_placed dc__law_placed pm__law_placed an__law_placed cd__law_placed ct__law_placed), sl__law_placed⟩)
    (c__law_placed : PySem.W.codeIn K cd__law_placed "_law_placed" = true)
    (k__law_placed : PySem.W.keepIn K (.ref f__law_placed) = true)
    (a__law_named : PySem.W.nsIn K mainGlobals "_law_named" = some (some (.ref f__law_named)))
    (l__law_named : K.lookup f__law_named = some ⟨oc__law_named, od__law_named, .func (PySem.W.fnOf "_law_named" "_law_named" (defArgs s__law_named) (defBody s__law_named) (defScope s__law_named) .none kV__law_named dc__law_named pm__law_named an__law_named cd__law_named ct__law_named), sl__law_named⟩)
    (c__law_named : PySem.W.codeIn K cd__law_named "_law_named" = true)
    (k__law_named : PySem.W.keepIn K (.ref f__law_named) = true)
    (a__law_right : PySem.W.nsIn K mainGlobals "_law_right" = some (some (.ref f__law_right)))
    (l__law_right : K.lookup f__law_right = some ⟨oc__law_right, od__law_right, .func (PySem.W.fnOf "_law_right" "_law_right" (defArgs s__law_right) (defBody s__law_right) (defScope s__law_right) .none kV__law_right dc__law_right pm__law_right an__law_right cd__law_right ct__law_right), sl__law_right⟩)
    (c__law_right : PySem.W.codeIn K cd__law_right "_law_right" = true)
    (k__law_right : PySem.W.keepIn K (.ref f__law_right) = true)
    (a_law : PySem.W.nsIn K mainGlobals "law" = some (some (.ref f_law)))
    (l_law : K.lookup f_law = some ⟨oc_law, od_law, .func (PySem.W.fnOf "law" "law" (defArgs s_law) (defBody s_law) (defScope s_law) .none kV_law dc_law pm_law an_law cd_law ct_law), sl_law⟩)
    (c_law : PySem.W.codeIn K cd_law "law" = true)
    (k_law : PySem.W.keepIn K (.ref f_law) = true)
    (z_isinstance : PySem.W.nsIn K mainGlobals "isinstance" = some none)
    (z_int : PySem.W.nsIn K mainGlobals "int" = some none)
    (z_bool : PySem.W.nsIn K mainGlobals "bool" = some none)
    (z_str : PySem.W.nsIn K mainGlobals "str" = some none)
    (z_tuple : PySem.W.nsIn K mainGlobals "tuple" = some none)
    (z_list : PySem.W.nsIn K mainGlobals "list" = some none)
    (z_len : PySem.W.nsIn K mainGlobals "len" = some none)
    (z_all : PySem.W.nsIn K mainGlobals "all" = some none)
    (z_range : PySem.W.nsIn K mainGlobals "range" = some none)
    (z_enumerate : PySem.W.nsIn K mainGlobals "enumerate" = some none)
    (z_zip : PySem.W.nsIn K mainGlobals "zip" = some none)
    (z_dict : PySem.W.nsIn K mainGlobals "dict" = some none)
    (z_abs : PySem.W.nsIn K mainGlobals "abs" = some none)
    (z_max : PySem.W.nsIn K mainGlobals "max" = some none)
    (z_min : PySem.W.nsIn K mainGlobals "min" = some none)
    (z_divmod : PySem.W.nsIn K mainGlobals "divmod" = some none)
    (z_repr : PySem.W.nsIn K mainGlobals "repr" = some none)
    (z_ValueError : PySem.W.nsIn K mainGlobals "ValueError" = some none)
    (z_LookupError : PySem.W.nsIn K mainGlobals "LookupError" = some none)
    (z_ArithmeticError : PySem.W.nsIn K mainGlobals "ArithmeticError" = some none)
    (v_MOST_SEATS : PySem.W.nsIn K mainGlobals "MOST_SEATS" = some (some (.int 4 tk_MOST_SEATS)))
    (v_MOST_LINES : PySem.W.nsIn K mainGlobals "MOST_LINES" = some (some (.int 8 tk_MOST_LINES)))
    (v_MOST_ROWS : PySem.W.nsIn K mainGlobals "MOST_ROWS" = some (some (.int 6 tk_MOST_ROWS)))
    (v_MOST_PARTS : PySem.W.nsIn K mainGlobals "MOST_PARTS" = some (some (.int 6 tk_MOST_PARTS)))
    (v_MOST_RING : PySem.W.nsIn K mainGlobals "MOST_RING" = some (some (.int 3 tk_MOST_RING)))
    (v_MOST_INTEGER : PySem.W.nsIn K mainGlobals "MOST_INTEGER" = some (some (.int 1000000000000 tk_MOST_INTEGER)))
    (v_MOST_CHANGES : PySem.W.nsIn K mainGlobals "MOST_CHANGES" = some (some (.int 6 tk_MOST_CHANGES)))
    (xq_hn : PySem.W.specialIn K (.builtin "object.__class__") "__get__" = some (some (.builtin "getset_descriptor.__get__")))
    (xq_ht : PySem.W.takesIn K (.builtin "object.__class__") = some true)
    (xa_BadValue : PySem.W.nsIn K mainGlobals "BadValue" = some (some (.ref D_BadValue)))
    (xa_BadName : PySem.W.nsIn K mainGlobals "BadName" = some (some (.ref D_BadName)))
    (xa_NoAnswer : PySem.W.nsIn K mainGlobals "NoAnswer" = some (some (.ref D_NoAnswer)))
    (xa_InvalidText : PySem.W.nsIn K mainGlobals "InvalidText" = some (some (.ref D_InvalidText)))
    (xa_InvalidName : PySem.W.nsIn K mainGlobals "InvalidName" = some (some (.ref D_InvalidName)))
    (xa_InvalidNumber : PySem.W.nsIn K mainGlobals "InvalidNumber" = some (some (.ref D_InvalidNumber)))
    (xa_InvalidQuestion : PySem.W.nsIn K mainGlobals "InvalidQuestion" = some (some (.ref D_InvalidQuestion)))
    (xa_InvalidCase : PySem.W.nsIn K mainGlobals "InvalidCase" = some (some (.ref D_InvalidCase)))
    (xa_InvalidChange : PySem.W.nsIn K mainGlobals "InvalidChange" = some (some (.ref D_InvalidChange)))
    (xa_InvalidWish : PySem.W.nsIn K mainGlobals "InvalidWish" = some (some (.ref D_InvalidWish)))
    (xa_InvalidIndex : PySem.W.nsIn K mainGlobals "InvalidIndex" = some (some (.ref D_InvalidIndex)))
    (xa_NotARule : PySem.W.nsIn K mainGlobals "NotARule" = some (some (.ref D_NotARule)))
    (xa_OtherSeats : PySem.W.nsIn K mainGlobals "OtherSeats" = some (some (.ref D_OtherSeats)))
    (xa_InvalidSeats : PySem.W.nsIn K mainGlobals "InvalidSeats" = some (some (.ref D_InvalidSeats)))
    (xa_InvalidLines : PySem.W.nsIn K mainGlobals "InvalidLines" = some (some (.ref D_InvalidLines)))
    (xa_InvalidRows : PySem.W.nsIn K mainGlobals "InvalidRows" = some (some (.ref D_InvalidRows)))
    (xa_InvalidBids : PySem.W.nsIn K mainGlobals "InvalidBids" = some (some (.ref D_InvalidBids)))
    (xa_InvalidChanges : PySem.W.nsIn K mainGlobals "InvalidChanges" = some (some (.ref D_InvalidChanges)))
    (xa_UnknownName : PySem.W.nsIn K mainGlobals "UnknownName" = some (some (.ref D_UnknownName)))
    (xa_InUse : PySem.W.nsIn K mainGlobals "InUse" = some (some (.ref D_InUse)))
    (xa_NothingToUndo : PySem.W.nsIn K mainGlobals "NothingToUndo" = some (some (.ref D_NothingToUndo)))
    (xa_Broken : PySem.W.nsIn K mainGlobals "Broken" = some (some (.ref D_Broken)))
    (xi_InvalidText : PySem.W.findIn K (.ref D_InvalidText) "index" = some none)
    (xg_InvalidText : PySem.W.findIn K (.ref D_InvalidText) "given" = some none)
    (xga_InvalidText : PySem.W.findIn K (.ref D_InvalidText) "__getattribute__" = some (some (.builtin "BaseException.__getattribute__")))
    (xgg_InvalidText : PySem.W.findIn K (.ref D_InvalidText) "__getattr__" = some none)
    (xcl_InvalidText : PySem.W.findIn K (.ref D_InvalidText) "__class__" = some (some (.builtin "object.__class__")))
    (xe_InvalidText : PySem.W.subIn K (.ref D_InvalidText) (.type "BaseException") = some true)
    (xk_InvalidText : PySem.W.keepIn K (.ref D_InvalidText) = true)
    (xhd_InvalidText : PySem.W.hasDictIn K D_InvalidText = true)
    (xmo_InvalidText : PySem.W.mroIn K D_InvalidText (.type "object") = some true)
    (xc_InvalidText : K.lookup D_InvalidText = some (excClassObj y_nm_InvalidText y_q_InvalidText D_InvalidText y_N_InvalidText y_bs_InvalidText y_bm_InvalidText true y_sn_InvalidText y_sub_InvalidText y_ab_InvalidText y_col_InvalidText y_dd_InvalidText y_k0_InvalidText y_k1_InvalidText y_k2_InvalidText y_k3_InvalidText y_k5_InvalidText "ValueError.__new__"))
    (xr_InvalidText : PySem.HandSPX.refsVE y_bm_InvalidText = true)
    (xs_InvalidText : PySem.W.findIn K (.ref D_InvalidText) "__setattr__" = some (some (.builtin "object.__setattr__")))
    (xt_InvalidText : PySem.W.typeIn K (.ref D_InvalidText) = some (.type "type"))
    (a_InvalidText___init__ : PySem.W.findIn K (.ref D_InvalidText) "__init__" = some (some (.ref f_InvalidText___init__)))
    (i_InvalidText___init__ : PySem.W.typeIn K (.ref f_InvalidText___init__) = some (.type "function"))
    (l_InvalidText___init__ : K.lookup f_InvalidText___init__ = some ⟨oc_InvalidText___init__, od_InvalidText___init__, .func (PySem.W.fnOf "__init__" "InvalidText.__init__" (defArgs s_InvalidText___init__) (defBody s_InvalidText___init__) (defScope s_InvalidText___init__) .none kV_InvalidText___init__ dc_InvalidText___init__ pm_InvalidText___init__ an_InvalidText___init__ cd_InvalidText___init__ ct_InvalidText___init__), sl_InvalidText___init__⟩)
    (c_InvalidText___init__ : PySem.W.codeIn K cd_InvalidText___init__ "InvalidText.__init__" = true)
    (k_InvalidText___init__ : PySem.W.keepIn K (.ref f_InvalidText___init__) = true)
    (xi_InvalidName : PySem.W.findIn K (.ref D_InvalidName) "index" = some none)
    (xg_InvalidName : PySem.W.findIn K (.ref D_InvalidName) "given" = some none)
    (xga_InvalidName : PySem.W.findIn K (.ref D_InvalidName) "__getattribute__" = some (some (.builtin "BaseException.__getattribute__")))
    (xgg_InvalidName : PySem.W.findIn K (.ref D_InvalidName) "__getattr__" = some none)
    (xcl_InvalidName : PySem.W.findIn K (.ref D_InvalidName) "__class__" = some (some (.builtin "object.__class__")))
    (xe_InvalidName : PySem.W.subIn K (.ref D_InvalidName) (.type "BaseException") = some true)
    (xk_InvalidName : PySem.W.keepIn K (.ref D_InvalidName) = true)
    (xhd_InvalidName : PySem.W.hasDictIn K D_InvalidName = true)
    (xmo_InvalidName : PySem.W.mroIn K D_InvalidName (.type "object") = some true)
    (xc_InvalidName : K.lookup D_InvalidName = some (excClassObj y_nm_InvalidName y_q_InvalidName D_InvalidName y_N_InvalidName y_bs_InvalidName y_bm_InvalidName true y_sn_InvalidName y_sub_InvalidName y_ab_InvalidName y_col_InvalidName y_dd_InvalidName y_k0_InvalidName y_k1_InvalidName y_k2_InvalidName y_k3_InvalidName y_k5_InvalidName "ValueError.__new__"))
    (xr_InvalidName : PySem.HandSPX.refsVE y_bm_InvalidName = true)
    (xs_InvalidName : PySem.W.findIn K (.ref D_InvalidName) "__setattr__" = some (some (.builtin "object.__setattr__")))
    (xt_InvalidName : PySem.W.typeIn K (.ref D_InvalidName) = some (.type "type"))
    (a_InvalidName___init__ : PySem.W.findIn K (.ref D_InvalidName) "__init__" = some (some (.ref f_InvalidName___init__)))
    (i_InvalidName___init__ : PySem.W.typeIn K (.ref f_InvalidName___init__) = some (.type "function"))
    (l_InvalidName___init__ : K.lookup f_InvalidName___init__ = some ⟨oc_InvalidName___init__, od_InvalidName___init__, .func (PySem.W.fnOf "__init__" "InvalidName.__init__" (defArgs s_InvalidName___init__) (defBody s_InvalidName___init__) (defScope s_InvalidName___init__) .none kV_InvalidName___init__ dc_InvalidName___init__ pm_InvalidName___init__ an_InvalidName___init__ cd_InvalidName___init__ ct_InvalidName___init__), sl_InvalidName___init__⟩)
    (c_InvalidName___init__ : PySem.W.codeIn K cd_InvalidName___init__ "InvalidName.__init__" = true)
    (k_InvalidName___init__ : PySem.W.keepIn K (.ref f_InvalidName___init__) = true)
    (xi_InvalidNumber : PySem.W.findIn K (.ref D_InvalidNumber) "index" = some none)
    (xg_InvalidNumber : PySem.W.findIn K (.ref D_InvalidNumber) "given" = some none)
    (xga_InvalidNumber : PySem.W.findIn K (.ref D_InvalidNumber) "__getattribute__" = some (some (.builtin "BaseException.__getattribute__")))
    (xgg_InvalidNumber : PySem.W.findIn K (.ref D_InvalidNumber) "__getattr__" = some none)
    (xcl_InvalidNumber : PySem.W.findIn K (.ref D_InvalidNumber) "__class__" = some (some (.builtin "object.__class__")))
    (xe_InvalidNumber : PySem.W.subIn K (.ref D_InvalidNumber) (.type "BaseException") = some true)
    (xk_InvalidNumber : PySem.W.keepIn K (.ref D_InvalidNumber) = true)
    (xhd_InvalidNumber : PySem.W.hasDictIn K D_InvalidNumber = true)
    (xmo_InvalidNumber : PySem.W.mroIn K D_InvalidNumber (.type "object") = some true)
    (xc_InvalidNumber : K.lookup D_InvalidNumber = some (excClassObj y_nm_InvalidNumber y_q_InvalidNumber D_InvalidNumber y_N_InvalidNumber y_bs_InvalidNumber y_bm_InvalidNumber true y_sn_InvalidNumber y_sub_InvalidNumber y_ab_InvalidNumber y_col_InvalidNumber y_dd_InvalidNumber y_k0_InvalidNumber y_k1_InvalidNumber y_k2_InvalidNumber y_k3_InvalidNumber y_k5_InvalidNumber "ValueError.__new__"))
    (xr_InvalidNumber : PySem.HandSPX.refsVE y_bm_InvalidNumber = true)
    (xs_InvalidNumber : PySem.W.findIn K (.ref D_InvalidNumber) "__setattr__" = some (some (.builtin "object.__setattr__")))
    (xt_InvalidNumber : PySem.W.typeIn K (.ref D_InvalidNumber) = some (.type "type"))
    (a_InvalidNumber___init__ : PySem.W.findIn K (.ref D_InvalidNumber) "__init__" = some (some (.ref f_InvalidNumber___init__)))
    (i_InvalidNumber___init__ : PySem.W.typeIn K (.ref f_InvalidNumber___init__) = some (.type "function"))
    (l_InvalidNumber___init__ : K.lookup f_InvalidNumber___init__ = some ⟨oc_InvalidNumber___init__, od_InvalidNumber___init__, .func (PySem.W.fnOf "__init__" "InvalidNumber.__init__" (defArgs s_InvalidNumber___init__) (defBody s_InvalidNumber___init__) (defScope s_InvalidNumber___init__) .none kV_InvalidNumber___init__ dc_InvalidNumber___init__ pm_InvalidNumber___init__ an_InvalidNumber___init__ cd_InvalidNumber___init__ ct_InvalidNumber___init__), sl_InvalidNumber___init__⟩)
    (c_InvalidNumber___init__ : PySem.W.codeIn K cd_InvalidNumber___init__ "InvalidNumber.__init__" = true)
    (k_InvalidNumber___init__ : PySem.W.keepIn K (.ref f_InvalidNumber___init__) = true)
    (xi_InvalidQuestion : PySem.W.findIn K (.ref D_InvalidQuestion) "index" = some none)
    (xg_InvalidQuestion : PySem.W.findIn K (.ref D_InvalidQuestion) "given" = some none)
    (xga_InvalidQuestion : PySem.W.findIn K (.ref D_InvalidQuestion) "__getattribute__" = some (some (.builtin "BaseException.__getattribute__")))
    (xgg_InvalidQuestion : PySem.W.findIn K (.ref D_InvalidQuestion) "__getattr__" = some none)
    (xcl_InvalidQuestion : PySem.W.findIn K (.ref D_InvalidQuestion) "__class__" = some (some (.builtin "object.__class__")))
    (xe_InvalidQuestion : PySem.W.subIn K (.ref D_InvalidQuestion) (.type "BaseException") = some true)
    (xk_InvalidQuestion : PySem.W.keepIn K (.ref D_InvalidQuestion) = true)
    (xhd_InvalidQuestion : PySem.W.hasDictIn K D_InvalidQuestion = true)
    (xmo_InvalidQuestion : PySem.W.mroIn K D_InvalidQuestion (.type "object") = some true)
    (xc_InvalidQuestion : K.lookup D_InvalidQuestion = some (excClassObj y_nm_InvalidQuestion y_q_InvalidQuestion D_InvalidQuestion y_N_InvalidQuestion y_bs_InvalidQuestion y_bm_InvalidQuestion true y_sn_InvalidQuestion y_sub_InvalidQuestion y_ab_InvalidQuestion y_col_InvalidQuestion y_dd_InvalidQuestion y_k0_InvalidQuestion y_k1_InvalidQuestion y_k2_InvalidQuestion y_k3_InvalidQuestion y_k5_InvalidQuestion "ValueError.__new__"))
    (xr_InvalidQuestion : PySem.HandSPX.refsVE y_bm_InvalidQuestion = true)
    (xs_InvalidQuestion : PySem.W.findIn K (.ref D_InvalidQuestion) "__setattr__" = some (some (.builtin "object.__setattr__")))
    (xt_InvalidQuestion : PySem.W.typeIn K (.ref D_InvalidQuestion) = some (.type "type"))
    (a_InvalidQuestion___init__ : PySem.W.findIn K (.ref D_InvalidQuestion) "__init__" = some (some (.ref f_InvalidQuestion___init__)))
    (i_InvalidQuestion___init__ : PySem.W.typeIn K (.ref f_InvalidQuestion___init__) = some (.type "function"))
    (l_InvalidQuestion___init__ : K.lookup f_InvalidQuestion___init__ = some ⟨oc_InvalidQuestion___init__, od_InvalidQuestion___init__, .func (PySem.W.fnOf "__init__" "InvalidQuestion.__init__" (defArgs s_InvalidQuestion___init__) (defBody s_InvalidQuestion___init__) (defScope s_InvalidQuestion___init__) .none kV_InvalidQuestion___init__ dc_InvalidQuestion___init__ pm_InvalidQuestion___init__ an_InvalidQuestion___init__ cd_InvalidQuestion___init__ ct_InvalidQuestion___init__), sl_InvalidQuestion___init__⟩)
    (c_InvalidQuestion___init__ : PySem.W.codeIn K cd_InvalidQuestion___init__ "InvalidQuestion.__init__" = true)
    (k_InvalidQuestion___init__ : PySem.W.keepIn K (.ref f_InvalidQuestion___init__) = true)
    (xi_InvalidCase : PySem.W.findIn K (.ref D_InvalidCase) "index" = some none)
    (xg_InvalidCase : PySem.W.findIn K (.ref D_InvalidCase) "given" = some none)
    (xga_InvalidCase : PySem.W.findIn K (.ref D_InvalidCase) "__getattribute__" = some (some (.builtin "BaseException.__getattribute__")))
    (xgg_InvalidCase : PySem.W.findIn K (.ref D_InvalidCase) "__getattr__" = some none)
    (xcl_InvalidCase : PySem.W.findIn K (.ref D_InvalidCase) "__class__" = some (some (.builtin "object.__class__")))
    (xe_InvalidCase : PySem.W.subIn K (.ref D_InvalidCase) (.type "BaseException") = some true)
    (xk_InvalidCase : PySem.W.keepIn K (.ref D_InvalidCase) = true)
    (xhd_InvalidCase : PySem.W.hasDictIn K D_InvalidCase = true)
    (xmo_InvalidCase : PySem.W.mroIn K D_InvalidCase (.type "object") = some true)
    (xc_InvalidCase : K.lookup D_InvalidCase = some (excClassObj y_nm_InvalidCase y_q_InvalidCase D_InvalidCase y_N_InvalidCase y_bs_InvalidCase y_bm_InvalidCase true y_sn_InvalidCase y_sub_InvalidCase y_ab_InvalidCase y_col_InvalidCase y_dd_InvalidCase y_k0_InvalidCase y_k1_InvalidCase y_k2_InvalidCase y_k3_InvalidCase y_k5_InvalidCase "ValueError.__new__"))
    (xr_InvalidCase : PySem.HandSPX.refsVE y_bm_InvalidCase = true)
    (xs_InvalidCase : PySem.W.findIn K (.ref D_InvalidCase) "__setattr__" = some (some (.builtin "object.__setattr__")))
    (xt_InvalidCase : PySem.W.typeIn K (.ref D_InvalidCase) = some (.type "type"))
    (a_InvalidCase___init__ : PySem.W.findIn K (.ref D_InvalidCase) "__init__" = some (some (.ref f_InvalidCase___init__)))
    (i_InvalidCase___init__ : PySem.W.typeIn K (.ref f_InvalidCase___init__) = some (.type "function"))
    (l_InvalidCase___init__ : K.lookup f_InvalidCase___init__ = some ⟨oc_InvalidCase___init__, od_InvalidCase___init__, .func (PySem.W.fnOf "__init__" "InvalidCase.__init__" (defArgs s_InvalidCase___init__) (defBody s_InvalidCase___init__) (defScope s_InvalidCase___init__) .none kV_InvalidCase___init__ dc_InvalidCase___init__ pm_InvalidCase___init__ an_InvalidCase___init__ cd_InvalidCase___init__ ct_InvalidCase___init__), sl_InvalidCase___init__⟩)
    (c_InvalidCase___init__ : PySem.W.codeIn K cd_InvalidCase___init__ "InvalidCase.__init__" = true)
    (k_InvalidCase___init__ : PySem.W.keepIn K (.ref f_InvalidCase___init__) = true)
    (xi_InvalidChange : PySem.W.findIn K (.ref D_InvalidChange) "index" = some none)
    (xg_InvalidChange : PySem.W.findIn K (.ref D_InvalidChange) "given" = some none)
    (xga_InvalidChange : PySem.W.findIn K (.ref D_InvalidChange) "__getattribute__" = some (some (.builtin "BaseException.__getattribute__")))
    (xgg_InvalidChange : PySem.W.findIn K (.ref D_InvalidChange) "__getattr__" = some none)
    (xcl_InvalidChange : PySem.W.findIn K (.ref D_InvalidChange) "__class__" = some (some (.builtin "object.__class__")))
    (xe_InvalidChange : PySem.W.subIn K (.ref D_InvalidChange) (.type "BaseException") = some true)
    (xk_InvalidChange : PySem.W.keepIn K (.ref D_InvalidChange) = true)
    (xhd_InvalidChange : PySem.W.hasDictIn K D_InvalidChange = true)
    (xmo_InvalidChange : PySem.W.mroIn K D_InvalidChange (.type "object") = some true)
    (xc_InvalidChange : K.lookup D_InvalidChange = some (excClassObj y_nm_InvalidChange y_q_InvalidChange D_InvalidChange y_N_InvalidChange y_bs_InvalidChange y_bm_InvalidChange true y_sn_InvalidChange y_sub_InvalidChange y_ab_InvalidChange y_col_InvalidChange y_dd_InvalidChange y_k0_InvalidChange y_k1_InvalidChange y_k2_InvalidChange y_k3_InvalidChange y_k5_InvalidChange "ValueError.__new__"))
    (xr_InvalidChange : PySem.HandSPX.refsVE y_bm_InvalidChange = true)
    (xs_InvalidChange : PySem.W.findIn K (.ref D_InvalidChange) "__setattr__" = some (some (.builtin "object.__setattr__")))
    (xt_InvalidChange : PySem.W.typeIn K (.ref D_InvalidChange) = some (.type "type"))
    (a_InvalidChange___init__ : PySem.W.findIn K (.ref D_InvalidChange) "__init__" = some (some (.ref f_InvalidChange___init__)))
    (i_InvalidChange___init__ : PySem.W.typeIn K (.ref f_InvalidChange___init__) = some (.type "function"))
    (l_InvalidChange___init__ : K.lookup f_InvalidChange___init__ = some ⟨oc_InvalidChange___init__, od_InvalidChange___init__, .func (PySem.W.fnOf "__init__" "InvalidChange.__init__" (defArgs s_InvalidChange___init__) (defBody s_InvalidChange___init__) (defScope s_InvalidChange___init__) .none kV_InvalidChange___init__ dc_InvalidChange___init__ pm_InvalidChange___init__ an_InvalidChange___init__ cd_InvalidChange___init__ ct_InvalidChange___init__), sl_InvalidChange___init__⟩)
    (c_InvalidChange___init__ : PySem.W.codeIn K cd_InvalidChange___init__ "InvalidChange.__init__" = true)
    (k_InvalidChange___init__ : PySem.W.keepIn K (.ref f_InvalidChange___init__) = true)
    (xi_InvalidWish : PySem.W.findIn K (.ref D_InvalidWish) "index" = some none)
    (xg_InvalidWish : PySem.W.findIn K (.ref D_InvalidWish) "given" = some none)
    (xga_InvalidWish : PySem.W.findIn K (.ref D_InvalidWish) "__getattribute__" = some (some (.builtin "BaseException.__getattribute__")))
    (xgg_InvalidWish : PySem.W.findIn K (.ref D_InvalidWish) "__getattr__" = some none)
    (xcl_InvalidWish : PySem.W.findIn K (.ref D_InvalidWish) "__class__" = some (some (.builtin "object.__class__")))
    (xe_InvalidWish : PySem.W.subIn K (.ref D_InvalidWish) (.type "BaseException") = some true)
    (xk_InvalidWish : PySem.W.keepIn K (.ref D_InvalidWish) = true)
    (xhd_InvalidWish : PySem.W.hasDictIn K D_InvalidWish = true)
    (xmo_InvalidWish : PySem.W.mroIn K D_InvalidWish (.type "object") = some true)
    (xc_InvalidWish : K.lookup D_InvalidWish = some (excClassObj y_nm_InvalidWish y_q_InvalidWish D_InvalidWish y_N_InvalidWish y_bs_InvalidWish y_bm_InvalidWish true y_sn_InvalidWish y_sub_InvalidWish y_ab_InvalidWish y_col_InvalidWish y_dd_InvalidWish y_k0_InvalidWish y_k1_InvalidWish y_k2_InvalidWish y_k3_InvalidWish y_k5_InvalidWish "ValueError.__new__"))
    (xr_InvalidWish : PySem.HandSPX.refsVE y_bm_InvalidWish = true)
    (xs_InvalidWish : PySem.W.findIn K (.ref D_InvalidWish) "__setattr__" = some (some (.builtin "object.__setattr__")))
    (xt_InvalidWish : PySem.W.typeIn K (.ref D_InvalidWish) = some (.type "type"))
    (a_InvalidWish___init__ : PySem.W.findIn K (.ref D_InvalidWish) "__init__" = some (some (.ref f_InvalidWish___init__)))
    (i_InvalidWish___init__ : PySem.W.typeIn K (.ref f_InvalidWish___init__) = some (.type "function"))
    (l_InvalidWish___init__ : K.lookup f_InvalidWish___init__ = some ⟨oc_InvalidWish___init__, od_InvalidWish___init__, .func (PySem.W.fnOf "__init__" "InvalidWish.__init__" (defArgs s_InvalidWish___init__) (defBody s_InvalidWish___init__) (defScope s_InvalidWish___init__) .none kV_InvalidWish___init__ dc_InvalidWish___init__ pm_InvalidWish___init__ an_InvalidWish___init__ cd_InvalidWish___init__ ct_InvalidWish___init__), sl_InvalidWish___init__⟩)
    (c_InvalidWish___init__ : PySem.W.codeIn K cd_InvalidWish___init__ "InvalidWish.__init__" = true)
    (k_InvalidWish___init__ : PySem.W.keepIn K (.ref f_InvalidWish___init__) = true)
    (xi_InvalidIndex : PySem.W.findIn K (.ref D_InvalidIndex) "index" = some none)
    (xg_InvalidIndex : PySem.W.findIn K (.ref D_InvalidIndex) "given" = some none)
    (xga_InvalidIndex : PySem.W.findIn K (.ref D_InvalidIndex) "__getattribute__" = some (some (.builtin "BaseException.__getattribute__")))
    (xgg_InvalidIndex : PySem.W.findIn K (.ref D_InvalidIndex) "__getattr__" = some none)
    (xcl_InvalidIndex : PySem.W.findIn K (.ref D_InvalidIndex) "__class__" = some (some (.builtin "object.__class__")))
    (xe_InvalidIndex : PySem.W.subIn K (.ref D_InvalidIndex) (.type "BaseException") = some true)
    (xk_InvalidIndex : PySem.W.keepIn K (.ref D_InvalidIndex) = true)
    (xhd_InvalidIndex : PySem.W.hasDictIn K D_InvalidIndex = true)
    (xmo_InvalidIndex : PySem.W.mroIn K D_InvalidIndex (.type "object") = some true)
    (xc_InvalidIndex : K.lookup D_InvalidIndex = some (excClassObj y_nm_InvalidIndex y_q_InvalidIndex D_InvalidIndex y_N_InvalidIndex y_bs_InvalidIndex y_bm_InvalidIndex true y_sn_InvalidIndex y_sub_InvalidIndex y_ab_InvalidIndex y_col_InvalidIndex y_dd_InvalidIndex y_k0_InvalidIndex y_k1_InvalidIndex y_k2_InvalidIndex y_k3_InvalidIndex y_k5_InvalidIndex "ValueError.__new__"))
    (xr_InvalidIndex : PySem.HandSPX.refsVE y_bm_InvalidIndex = true)
    (xs_InvalidIndex : PySem.W.findIn K (.ref D_InvalidIndex) "__setattr__" = some (some (.builtin "object.__setattr__")))
    (xt_InvalidIndex : PySem.W.typeIn K (.ref D_InvalidIndex) = some (.type "type"))
    (a_InvalidIndex___init__ : PySem.W.findIn K (.ref D_InvalidIndex) "__init__" = some (some (.ref f_InvalidIndex___init__)))
    (i_InvalidIndex___init__ : PySem.W.typeIn K (.ref f_InvalidIndex___init__) = some (.type "function"))
    (l_InvalidIndex___init__ : K.lookup f_InvalidIndex___init__ = some ⟨oc_InvalidIndex___init__, od_InvalidIndex___init__, .func (PySem.W.fnOf "__init__" "InvalidIndex.__init__" (defArgs s_InvalidIndex___init__) (defBody s_InvalidIndex___init__) (defScope s_InvalidIndex___init__) .none kV_InvalidIndex___init__ dc_InvalidIndex___init__ pm_InvalidIndex___init__ an_InvalidIndex___init__ cd_InvalidIndex___init__ ct_InvalidIndex___init__), sl_InvalidIndex___init__⟩)
    (c_InvalidIndex___init__ : PySem.W.codeIn K cd_InvalidIndex___init__ "InvalidIndex.__init__" = true)
    (k_InvalidIndex___init__ : PySem.W.keepIn K (.ref f_InvalidIndex___init__) = true)
    (xi_NotARule : PySem.W.findIn K (.ref D_NotARule) "index" = some none)
    (xg_NotARule : PySem.W.findIn K (.ref D_NotARule) "given" = some none)
    (xga_NotARule : PySem.W.findIn K (.ref D_NotARule) "__getattribute__" = some (some (.builtin "BaseException.__getattribute__")))
    (xgg_NotARule : PySem.W.findIn K (.ref D_NotARule) "__getattr__" = some none)
    (xcl_NotARule : PySem.W.findIn K (.ref D_NotARule) "__class__" = some (some (.builtin "object.__class__")))
    (xe_NotARule : PySem.W.subIn K (.ref D_NotARule) (.type "BaseException") = some true)
    (xk_NotARule : PySem.W.keepIn K (.ref D_NotARule) = true)
    (xhd_NotARule : PySem.W.hasDictIn K D_NotARule = true)
    (xmo_NotARule : PySem.W.mroIn K D_NotARule (.type "object") = some true)
    (xc_NotARule : K.lookup D_NotARule = some (excClassObj y_nm_NotARule y_q_NotARule D_NotARule y_N_NotARule y_bs_NotARule y_bm_NotARule true y_sn_NotARule y_sub_NotARule y_ab_NotARule y_col_NotARule y_dd_NotARule y_k0_NotARule y_k1_NotARule y_k2_NotARule y_k3_NotARule y_k5_NotARule "ValueError.__new__"))
    (xr_NotARule : PySem.HandSPX.refsVE y_bm_NotARule = true)
    (xs_NotARule : PySem.W.findIn K (.ref D_NotARule) "__setattr__" = some (some (.builtin "object.__setattr__")))
    (xt_NotARule : PySem.W.typeIn K (.ref D_NotARule) = some (.type "type"))
    (a_NotARule___init__ : PySem.W.findIn K (.ref D_NotARule) "__init__" = some (some (.ref f_NotARule___init__)))
    (i_NotARule___init__ : PySem.W.typeIn K (.ref f_NotARule___init__) = some (.type "function"))
    (l_NotARule___init__ : K.lookup f_NotARule___init__ = some ⟨oc_NotARule___init__, od_NotARule___init__, .func (PySem.W.fnOf "__init__" "NotARule.__init__" (defArgs s_NotARule___init__) (defBody s_NotARule___init__) (defScope s_NotARule___init__) .none kV_NotARule___init__ dc_NotARule___init__ pm_NotARule___init__ an_NotARule___init__ cd_NotARule___init__ ct_NotARule___init__), sl_NotARule___init__⟩)
    (c_NotARule___init__ : PySem.W.codeIn K cd_NotARule___init__ "NotARule.__init__" = true)
    (k_NotARule___init__ : PySem.W.keepIn K (.ref f_NotARule___init__) = true)
    (xi_OtherSeats : PySem.W.findIn K (.ref D_OtherSeats) "index" = some none)
    (xg_OtherSeats : PySem.W.findIn K (.ref D_OtherSeats) "given" = some none)
    (xga_OtherSeats : PySem.W.findIn K (.ref D_OtherSeats) "__getattribute__" = some (some (.builtin "BaseException.__getattribute__")))
    (xgg_OtherSeats : PySem.W.findIn K (.ref D_OtherSeats) "__getattr__" = some none)
    (xcl_OtherSeats : PySem.W.findIn K (.ref D_OtherSeats) "__class__" = some (some (.builtin "object.__class__")))
    (xe_OtherSeats : PySem.W.subIn K (.ref D_OtherSeats) (.type "BaseException") = some true)
    (xk_OtherSeats : PySem.W.keepIn K (.ref D_OtherSeats) = true)
    (xhd_OtherSeats : PySem.W.hasDictIn K D_OtherSeats = true)
    (xmo_OtherSeats : PySem.W.mroIn K D_OtherSeats (.type "object") = some true)
    (xc_OtherSeats : K.lookup D_OtherSeats = some (excClassObj y_nm_OtherSeats y_q_OtherSeats D_OtherSeats y_N_OtherSeats y_bs_OtherSeats y_bm_OtherSeats true y_sn_OtherSeats y_sub_OtherSeats y_ab_OtherSeats y_col_OtherSeats y_dd_OtherSeats y_k0_OtherSeats y_k1_OtherSeats y_k2_OtherSeats y_k3_OtherSeats y_k5_OtherSeats "ValueError.__new__"))
    (xr_OtherSeats : PySem.HandSPX.refsVE y_bm_OtherSeats = true)
    (xs_OtherSeats : PySem.W.findIn K (.ref D_OtherSeats) "__setattr__" = some (some (.builtin "object.__setattr__")))
    (xt_OtherSeats : PySem.W.typeIn K (.ref D_OtherSeats) = some (.type "type"))
    (a_OtherSeats___init__ : PySem.W.findIn K (.ref D_OtherSeats) "__init__" = some (some (.ref f_OtherSeats___init__)))
    (i_OtherSeats___init__ : PySem.W.typeIn K (.ref f_OtherSeats___init__) = some (.type "function"))
    (l_OtherSeats___init__ : K.lookup f_OtherSeats___init__ = some ⟨oc_OtherSeats___init__, od_OtherSeats___init__, .func (PySem.W.fnOf "__init__" "OtherSeats.__init__" (defArgs s_OtherSeats___init__) (defBody s_OtherSeats___init__) (defScope s_OtherSeats___init__) .none kV_OtherSeats___init__ dc_OtherSeats___init__ pm_OtherSeats___init__ an_OtherSeats___init__ cd_OtherSeats___init__ ct_OtherSeats___init__), sl_OtherSeats___init__⟩)
    (c_OtherSeats___init__ : PySem.W.codeIn K cd_OtherSeats___init__ "OtherSeats.__init__" = true)
    (k_OtherSeats___init__ : PySem.W.keepIn K (.ref f_OtherSeats___init__) = true)
    (xi_InvalidSeats : PySem.W.findIn K (.ref D_InvalidSeats) "index" = some none)
    (xg_InvalidSeats : PySem.W.findIn K (.ref D_InvalidSeats) "given" = some none)
    (xga_InvalidSeats : PySem.W.findIn K (.ref D_InvalidSeats) "__getattribute__" = some (some (.builtin "BaseException.__getattribute__")))
    (xgg_InvalidSeats : PySem.W.findIn K (.ref D_InvalidSeats) "__getattr__" = some none)
    (xcl_InvalidSeats : PySem.W.findIn K (.ref D_InvalidSeats) "__class__" = some (some (.builtin "object.__class__")))
    (xe_InvalidSeats : PySem.W.subIn K (.ref D_InvalidSeats) (.type "BaseException") = some true)
    (xk_InvalidSeats : PySem.W.keepIn K (.ref D_InvalidSeats) = true)
    (xhd_InvalidSeats : PySem.W.hasDictIn K D_InvalidSeats = true)
    (xmo_InvalidSeats : PySem.W.mroIn K D_InvalidSeats (.type "object") = some true)
    (xc_InvalidSeats : K.lookup D_InvalidSeats = some (excClassObj y_nm_InvalidSeats y_q_InvalidSeats D_InvalidSeats y_N_InvalidSeats y_bs_InvalidSeats y_bm_InvalidSeats true y_sn_InvalidSeats y_sub_InvalidSeats y_ab_InvalidSeats y_col_InvalidSeats y_dd_InvalidSeats y_k0_InvalidSeats y_k1_InvalidSeats y_k2_InvalidSeats y_k3_InvalidSeats y_k5_InvalidSeats "ValueError.__new__"))
    (xr_InvalidSeats : PySem.HandSPX.refsVE y_bm_InvalidSeats = true)
    (xs_InvalidSeats : PySem.W.findIn K (.ref D_InvalidSeats) "__setattr__" = some (some (.builtin "object.__setattr__")))
    (xt_InvalidSeats : PySem.W.typeIn K (.ref D_InvalidSeats) = some (.type "type"))
    (a_InvalidSeats___init__ : PySem.W.findIn K (.ref D_InvalidSeats) "__init__" = some (some (.ref f_InvalidSeats___init__)))
    (i_InvalidSeats___init__ : PySem.W.typeIn K (.ref f_InvalidSeats___init__) = some (.type "function"))
    (l_InvalidSeats___init__ : K.lookup f_InvalidSeats___init__ = some ⟨oc_InvalidSeats___init__, od_InvalidSeats___init__, .func (PySem.W.fnOf "__init__" "InvalidSeats.__init__" (defArgs s_InvalidSeats___init__) (defBody s_InvalidSeats___init__) (defScope s_InvalidSeats___init__) .none kV_InvalidSeats___init__ dc_InvalidSeats___init__ pm_InvalidSeats___init__ an_InvalidSeats___init__ cd_InvalidSeats___init__ ct_InvalidSeats___init__), sl_InvalidSeats___init__⟩)
    (c_InvalidSeats___init__ : PySem.W.codeIn K cd_InvalidSeats___init__ "InvalidSeats.__init__" = true)
    (k_InvalidSeats___init__ : PySem.W.keepIn K (.ref f_InvalidSeats___init__) = true)
    (xi_InvalidLines : PySem.W.findIn K (.ref D_InvalidLines) "index" = some none)
    (xg_InvalidLines : PySem.W.findIn K (.ref D_InvalidLines) "given" = some none)
    (xga_InvalidLines : PySem.W.findIn K (.ref D_InvalidLines) "__getattribute__" = some (some (.builtin "BaseException.__getattribute__")))
    (xgg_InvalidLines : PySem.W.findIn K (.ref D_InvalidLines) "__getattr__" = some none)
    (xcl_InvalidLines : PySem.W.findIn K (.ref D_InvalidLines) "__class__" = some (some (.builtin "object.__class__")))
    (xe_InvalidLines : PySem.W.subIn K (.ref D_InvalidLines) (.type "BaseException") = some true)
    (xk_InvalidLines : PySem.W.keepIn K (.ref D_InvalidLines) = true)
    (xhd_InvalidLines : PySem.W.hasDictIn K D_InvalidLines = true)
    (xmo_InvalidLines : PySem.W.mroIn K D_InvalidLines (.type "object") = some true)
    (xc_InvalidLines : K.lookup D_InvalidLines = some (excClassObj y_nm_InvalidLines y_q_InvalidLines D_InvalidLines y_N_InvalidLines y_bs_InvalidLines y_bm_InvalidLines true y_sn_InvalidLines y_sub_InvalidLines y_ab_InvalidLines y_col_InvalidLines y_dd_InvalidLines y_k0_InvalidLines y_k1_InvalidLines y_k2_InvalidLines y_k3_InvalidLines y_k5_InvalidLines "ValueError.__new__"))
    (xr_InvalidLines : PySem.HandSPX.refsVE y_bm_InvalidLines = true)
    (xs_InvalidLines : PySem.W.findIn K (.ref D_InvalidLines) "__setattr__" = some (some (.builtin "object.__setattr__")))
    (xt_InvalidLines : PySem.W.typeIn K (.ref D_InvalidLines) = some (.type "type"))
    (a_InvalidLines___init__ : PySem.W.findIn K (.ref D_InvalidLines) "__init__" = some (some (.ref f_InvalidLines___init__)))
    (i_InvalidLines___init__ : PySem.W.typeIn K (.ref f_InvalidLines___init__) = some (.type "function"))
    (l_InvalidLines___init__ : K.lookup f_InvalidLines___init__ = some ⟨oc_InvalidLines___init__, od_InvalidLines___init__, .func (PySem.W.fnOf "__init__" "InvalidLines.__init__" (defArgs s_InvalidLines___init__) (defBody s_InvalidLines___init__) (defScope s_InvalidLines___init__) .none kV_InvalidLines___init__ dc_InvalidLines___init__ pm_InvalidLines___init__ an_InvalidLines___init__ cd_InvalidLines___init__ ct_InvalidLines___init__), sl_InvalidLines___init__⟩)
    (c_InvalidLines___init__ : PySem.W.codeIn K cd_InvalidLines___init__ "InvalidLines.__init__" = true)
    (k_InvalidLines___init__ : PySem.W.keepIn K (.ref f_InvalidLines___init__) = true)
    (xi_InvalidRows : PySem.W.findIn K (.ref D_InvalidRows) "index" = some none)
    (xg_InvalidRows : PySem.W.findIn K (.ref D_InvalidRows) "given" = some none)
    (xga_InvalidRows : PySem.W.findIn K (.ref D_InvalidRows) "__getattribute__" = some (some (.builtin "BaseException.__getattribute__")))
    (xgg_InvalidRows : PySem.W.findIn K (.ref D_InvalidRows) "__getattr__" = some none)
    (xcl_InvalidRows : PySem.W.findIn K (.ref D_InvalidRows) "__class__" = some (some (.builtin "object.__class__")))
    (xe_InvalidRows : PySem.W.subIn K (.ref D_InvalidRows) (.type "BaseException") = some true)
    (xk_InvalidRows : PySem.W.keepIn K (.ref D_InvalidRows) = true)
    (xhd_InvalidRows : PySem.W.hasDictIn K D_InvalidRows = true)
    (xmo_InvalidRows : PySem.W.mroIn K D_InvalidRows (.type "object") = some true)
    (xc_InvalidRows : K.lookup D_InvalidRows = some (excClassObj y_nm_InvalidRows y_q_InvalidRows D_InvalidRows y_N_InvalidRows y_bs_InvalidRows y_bm_InvalidRows true y_sn_InvalidRows y_sub_InvalidRows y_ab_InvalidRows y_col_InvalidRows y_dd_InvalidRows y_k0_InvalidRows y_k1_InvalidRows y_k2_InvalidRows y_k3_InvalidRows y_k5_InvalidRows "ValueError.__new__"))
    (xr_InvalidRows : PySem.HandSPX.refsVE y_bm_InvalidRows = true)
    (xs_InvalidRows : PySem.W.findIn K (.ref D_InvalidRows) "__setattr__" = some (some (.builtin "object.__setattr__")))
    (xt_InvalidRows : PySem.W.typeIn K (.ref D_InvalidRows) = some (.type "type"))
    (a_InvalidRows___init__ : PySem.W.findIn K (.ref D_InvalidRows) "__init__" = some (some (.ref f_InvalidRows___init__)))
    (i_InvalidRows___init__ : PySem.W.typeIn K (.ref f_InvalidRows___init__) = some (.type "function"))
    (l_InvalidRows___init__ : K.lookup f_InvalidRows___init__ = some ⟨oc_InvalidRows___init__, od_InvalidRows___init__, .func (PySem.W.fnOf "__init__" "InvalidRows.__init__" (defArgs s_InvalidRows___init__) (defBody s_InvalidRows___init__) (defScope s_InvalidRows___init__) .none kV_InvalidRows___init__ dc_InvalidRows___init__ pm_InvalidRows___init__ an_InvalidRows___init__ cd_InvalidRows___init__ ct_InvalidRows___init__), sl_InvalidRows___init__⟩)
    (c_InvalidRows___init__ : PySem.W.codeIn K cd_InvalidRows___init__ "InvalidRows.__init__" = true)
    (k_InvalidRows___init__ : PySem.W.keepIn K (.ref f_InvalidRows___init__) = true)
    (xi_InvalidBids : PySem.W.findIn K (.ref D_InvalidBids) "index" = some none)
    (xg_InvalidBids : PySem.W.findIn K (.ref D_InvalidBids) "given" = some none)
    (xga_InvalidBids : PySem.W.findIn K (.ref D_InvalidBids) "__getattribute__" = some (some (.builtin "BaseException.__getattribute__")))
    (xgg_InvalidBids : PySem.W.findIn K (.ref D_InvalidBids) "__getattr__" = some none)
    (xcl_InvalidBids : PySem.W.findIn K (.ref D_InvalidBids) "__class__" = some (some (.builtin "object.__class__")))
    (xe_InvalidBids : PySem.W.subIn K (.ref D_InvalidBids) (.type "BaseException") = some true)
    (xk_InvalidBids : PySem.W.keepIn K (.ref D_InvalidBids) = true)
    (xhd_InvalidBids : PySem.W.hasDictIn K D_InvalidBids = true)
    (xmo_InvalidBids : PySem.W.mroIn K D_InvalidBids (.type "object") = some true)
    (xc_InvalidBids : K.lookup D_InvalidBids = some (excClassObj y_nm_InvalidBids y_q_InvalidBids D_InvalidBids y_N_InvalidBids y_bs_InvalidBids y_bm_InvalidBids true y_sn_InvalidBids y_sub_InvalidBids y_ab_InvalidBids y_col_InvalidBids y_dd_InvalidBids y_k0_InvalidBids y_k1_InvalidBids y_k2_InvalidBids y_k3_InvalidBids y_k5_InvalidBids "ValueError.__new__"))
    (xr_InvalidBids : PySem.HandSPX.refsVE y_bm_InvalidBids = true)
    (xs_InvalidBids : PySem.W.findIn K (.ref D_InvalidBids) "__setattr__" = some (some (.builtin "object.__setattr__")))
    (xt_InvalidBids : PySem.W.typeIn K (.ref D_InvalidBids) = some (.type "type"))
    (a_InvalidBids___init__ : PySem.W.findIn K (.ref D_InvalidBids) "__init__" = some (some (.ref f_InvalidBids___init__)))
    (i_InvalidBids___init__ : PySem.W.typeIn K (.ref f_InvalidBids___init__) = some (.type "function"))
    (l_InvalidBids___init__ : K.lookup f_InvalidBids___init__ = some ⟨oc_InvalidBids___init__, od_InvalidBids___init__, .func (PySem.W.fnOf "__init__" "InvalidBids.__init__" (defArgs s_InvalidBids___init__) (defBody s_InvalidBids___init__) (defScope s_InvalidBids___init__) .none kV_InvalidBids___init__ dc_InvalidBids___init__ pm_InvalidBids___init__ an_InvalidBids___init__ cd_InvalidBids___init__ ct_InvalidBids___init__), sl_InvalidBids___init__⟩)
    (c_InvalidBids___init__ : PySem.W.codeIn K cd_InvalidBids___init__ "InvalidBids.__init__" = true)
    (k_InvalidBids___init__ : PySem.W.keepIn K (.ref f_InvalidBids___init__) = true)
    (xi_InvalidChanges : PySem.W.findIn K (.ref D_InvalidChanges) "index" = some none)
    (xg_InvalidChanges : PySem.W.findIn K (.ref D_InvalidChanges) "given" = some none)
    (xga_InvalidChanges : PySem.W.findIn K (.ref D_InvalidChanges) "__getattribute__" = some (some (.builtin "BaseException.__getattribute__")))
    (xgg_InvalidChanges : PySem.W.findIn K (.ref D_InvalidChanges) "__getattr__" = some none)
    (xcl_InvalidChanges : PySem.W.findIn K (.ref D_InvalidChanges) "__class__" = some (some (.builtin "object.__class__")))
    (xe_InvalidChanges : PySem.W.subIn K (.ref D_InvalidChanges) (.type "BaseException") = some true)
    (xk_InvalidChanges : PySem.W.keepIn K (.ref D_InvalidChanges) = true)
    (xhd_InvalidChanges : PySem.W.hasDictIn K D_InvalidChanges = true)
    (xmo_InvalidChanges : PySem.W.mroIn K D_InvalidChanges (.type "object") = some true)
    (xc_InvalidChanges : K.lookup D_InvalidChanges = some (excClassObj y_nm_InvalidChanges y_q_InvalidChanges D_InvalidChanges y_N_InvalidChanges y_bs_InvalidChanges y_bm_InvalidChanges true y_sn_InvalidChanges y_sub_InvalidChanges y_ab_InvalidChanges y_col_InvalidChanges y_dd_InvalidChanges y_k0_InvalidChanges y_k1_InvalidChanges y_k2_InvalidChanges y_k3_InvalidChanges y_k5_InvalidChanges "ValueError.__new__"))
    (xr_InvalidChanges : PySem.HandSPX.refsVE y_bm_InvalidChanges = true)
    (xs_InvalidChanges : PySem.W.findIn K (.ref D_InvalidChanges) "__setattr__" = some (some (.builtin "object.__setattr__")))
    (xt_InvalidChanges : PySem.W.typeIn K (.ref D_InvalidChanges) = some (.type "type"))
    (a_InvalidChanges___init__ : PySem.W.findIn K (.ref D_InvalidChanges) "__init__" = some (some (.ref f_InvalidChanges___init__)))
    (i_InvalidChanges___init__ : PySem.W.typeIn K (.ref f_InvalidChanges___init__) = some (.type "function"))
    (l_InvalidChanges___init__ : K.lookup f_InvalidChanges___init__ = some ⟨oc_InvalidChanges___init__, od_InvalidChanges___init__, .func (PySem.W.fnOf "__init__" "InvalidChanges.__init__" (defArgs s_InvalidChanges___init__) (defBody s_InvalidChanges___init__) (defScope s_InvalidChanges___init__) .none kV_InvalidChanges___init__ dc_InvalidChanges___init__ pm_InvalidChanges___init__ an_InvalidChanges___init__ cd_InvalidChanges___init__ ct_InvalidChanges___init__), sl_InvalidChanges___init__⟩)
    (c_InvalidChanges___init__ : PySem.W.codeIn K cd_InvalidChanges___init__ "InvalidChanges.__init__" = true)
    (k_InvalidChanges___init__ : PySem.W.keepIn K (.ref f_InvalidChanges___init__) = true)
    (xi_UnknownName : PySem.W.findIn K (.ref D_UnknownName) "index" = some none)
    (xg_UnknownName : PySem.W.findIn K (.ref D_UnknownName) "given" = some none)
    (xga_UnknownName : PySem.W.findIn K (.ref D_UnknownName) "__getattribute__" = some (some (.builtin "BaseException.__getattribute__")))
    (xgg_UnknownName : PySem.W.findIn K (.ref D_UnknownName) "__getattr__" = some none)
    (xcl_UnknownName : PySem.W.findIn K (.ref D_UnknownName) "__class__" = some (some (.builtin "object.__class__")))
    (xe_UnknownName : PySem.W.subIn K (.ref D_UnknownName) (.type "BaseException") = some true)
    (xk_UnknownName : PySem.W.keepIn K (.ref D_UnknownName) = true)
    (xhd_UnknownName : PySem.W.hasDictIn K D_UnknownName = true)
    (xmo_UnknownName : PySem.W.mroIn K D_UnknownName (.type "object") = some true)
    (xc_UnknownName : K.lookup D_UnknownName = some (excClassObj y_nm_UnknownName y_q_UnknownName D_UnknownName y_N_UnknownName y_bs_UnknownName y_bm_UnknownName true y_sn_UnknownName y_sub_UnknownName y_ab_UnknownName y_col_UnknownName y_dd_UnknownName y_k0_UnknownName y_k1_UnknownName y_k2_UnknownName y_k3_UnknownName y_k5_UnknownName "LookupError.__new__"))
    (xr_UnknownName : SbX.refsT SbX.leTail y_bm_UnknownName = true)
    (xs_UnknownName : PySem.W.findIn K (.ref D_UnknownName) "__setattr__" = some (some (.builtin "object.__setattr__")))
    (xt_UnknownName : PySem.W.typeIn K (.ref D_UnknownName) = some (.type "type"))
    (a_UnknownName___init__ : PySem.W.findIn K (.ref D_UnknownName) "__init__" = some (some (.ref f_UnknownName___init__)))
    (i_UnknownName___init__ : PySem.W.typeIn K (.ref f_UnknownName___init__) = some (.type "function"))
    (l_UnknownName___init__ : K.lookup f_UnknownName___init__ = some ⟨oc_UnknownName___init__, od_UnknownName___init__, .func (PySem.W.fnOf "__init__" "UnknownName.__init__" (defArgs s_UnknownName___init__) (defBody s_UnknownName___init__) (defScope s_UnknownName___init__) .none kV_UnknownName___init__ dc_UnknownName___init__ pm_UnknownName___init__ an_UnknownName___init__ cd_UnknownName___init__ ct_UnknownName___init__), sl_UnknownName___init__⟩)
    (c_UnknownName___init__ : PySem.W.codeIn K cd_UnknownName___init__ "UnknownName.__init__" = true)
    (k_UnknownName___init__ : PySem.W.keepIn K (.ref f_UnknownName___init__) = true)
    (xi_InUse : PySem.W.findIn K (.ref D_InUse) "index" = some none)
    (xg_InUse : PySem.W.findIn K (.ref D_InUse) "given" = some none)
    (xga_InUse : PySem.W.findIn K (.ref D_InUse) "__getattribute__" = some (some (.builtin "BaseException.__getattribute__")))
    (xgg_InUse : PySem.W.findIn K (.ref D_InUse) "__getattr__" = some none)
    (xcl_InUse : PySem.W.findIn K (.ref D_InUse) "__class__" = some (some (.builtin "object.__class__")))
    (xe_InUse : PySem.W.subIn K (.ref D_InUse) (.type "BaseException") = some true)
    (xk_InUse : PySem.W.keepIn K (.ref D_InUse) = true)
    (xhd_InUse : PySem.W.hasDictIn K D_InUse = true)
    (xmo_InUse : PySem.W.mroIn K D_InUse (.type "object") = some true)
    (xc_InUse : K.lookup D_InUse = some (excClassObj y_nm_InUse y_q_InUse D_InUse y_N_InUse y_bs_InUse y_bm_InUse true y_sn_InUse y_sub_InUse y_ab_InUse y_col_InUse y_dd_InUse y_k0_InUse y_k1_InUse y_k2_InUse y_k3_InUse y_k5_InUse "LookupError.__new__"))
    (xr_InUse : SbX.refsT SbX.leTail y_bm_InUse = true)
    (xs_InUse : PySem.W.findIn K (.ref D_InUse) "__setattr__" = some (some (.builtin "object.__setattr__")))
    (xt_InUse : PySem.W.typeIn K (.ref D_InUse) = some (.type "type"))
    (a_InUse___init__ : PySem.W.findIn K (.ref D_InUse) "__init__" = some (some (.ref f_InUse___init__)))
    (i_InUse___init__ : PySem.W.typeIn K (.ref f_InUse___init__) = some (.type "function"))
    (l_InUse___init__ : K.lookup f_InUse___init__ = some ⟨oc_InUse___init__, od_InUse___init__, .func (PySem.W.fnOf "__init__" "InUse.__init__" (defArgs s_InUse___init__) (defBody s_InUse___init__) (defScope s_InUse___init__) .none kV_InUse___init__ dc_InUse___init__ pm_InUse___init__ an_InUse___init__ cd_InUse___init__ ct_InUse___init__), sl_InUse___init__⟩)
    (c_InUse___init__ : PySem.W.codeIn K cd_InUse___init__ "InUse.__init__" = true)
    (k_InUse___init__ : PySem.W.keepIn K (.ref f_InUse___init__) = true)
    (xi_NothingToUndo : PySem.W.findIn K (.ref D_NothingToUndo) "index" = some none)
    (xg_NothingToUndo : PySem.W.findIn K (.ref D_NothingToUndo) "given" = some none)
    (xga_NothingToUndo : PySem.W.findIn K (.ref D_NothingToUndo) "__getattribute__" = some (some (.builtin "BaseException.__getattribute__")))
    (xgg_NothingToUndo : PySem.W.findIn K (.ref D_NothingToUndo) "__getattr__" = some none)
    (xcl_NothingToUndo : PySem.W.findIn K (.ref D_NothingToUndo) "__class__" = some (some (.builtin "object.__class__")))
    (xe_NothingToUndo : PySem.W.subIn K (.ref D_NothingToUndo) (.type "BaseException") = some true)
    (xk_NothingToUndo : PySem.W.keepIn K (.ref D_NothingToUndo) = true)
    (xhd_NothingToUndo : PySem.W.hasDictIn K D_NothingToUndo = true)
    (xmo_NothingToUndo : PySem.W.mroIn K D_NothingToUndo (.type "object") = some true)
    (xi_Broken : PySem.W.findIn K (.ref D_Broken) "index" = some none)
    (xg_Broken : PySem.W.findIn K (.ref D_Broken) "given" = some none)
    (xga_Broken : PySem.W.findIn K (.ref D_Broken) "__getattribute__" = some (some (.builtin "BaseException.__getattribute__")))
    (xgg_Broken : PySem.W.findIn K (.ref D_Broken) "__getattr__" = some none)
    (xcl_Broken : PySem.W.findIn K (.ref D_Broken) "__class__" = some (some (.builtin "object.__class__")))
    (xe_Broken : PySem.W.subIn K (.ref D_Broken) (.type "BaseException") = some true)
    (xk_Broken : PySem.W.keepIn K (.ref D_Broken) = true)
    (xhd_Broken : PySem.W.hasDictIn K D_Broken = true)
    (xmo_Broken : PySem.W.mroIn K D_Broken (.type "object") = some true)
    (xc_Broken : K.lookup D_Broken = some (excClassObj y_nm_Broken y_q_Broken D_Broken y_N_Broken y_bs_Broken y_bm_Broken true y_sn_Broken y_sub_Broken y_ab_Broken y_col_Broken y_dd_Broken y_k0_Broken y_k1_Broken y_k2_Broken y_k3_Broken y_k5_Broken "ArithmeticError.__new__"))
    (xr_Broken : SbX.refsT SbX.aeTail y_bm_Broken = true)
    (xs_Broken : PySem.W.findIn K (.ref D_Broken) "__setattr__" = some (some (.builtin "object.__setattr__")))
    (xt_Broken : PySem.W.typeIn K (.ref D_Broken) = some (.type "type"))
    (a_Broken___init__ : PySem.W.findIn K (.ref D_Broken) "__init__" = some (some (.ref f_Broken___init__)))
    (i_Broken___init__ : PySem.W.typeIn K (.ref f_Broken___init__) = some (.type "function"))
    (l_Broken___init__ : K.lookup f_Broken___init__ = some ⟨oc_Broken___init__, od_Broken___init__, .func (PySem.W.fnOf "__init__" "Broken.__init__" (defArgs s_Broken___init__) (defBody s_Broken___init__) (defScope s_Broken___init__) .none kV_Broken___init__ dc_Broken___init__ pm_Broken___init__ an_Broken___init__ cd_Broken___init__ ct_Broken___init__), sl_Broken___init__⟩)
    (c_Broken___init__ : PySem.W.codeIn K cd_Broken___init__ "Broken.__init__" = true)
    (k_Broken___init__ : PySem.W.keepIn K (.ref f_Broken___init__) = true)
    (xn_NothingToUndo : PySem.W.excIn K D_NothingToUndo SbX.aeTail "ArithmeticError.__new__" = true)
    (ki_ : kiB K [D_InvalidText, D_InvalidName, D_InvalidNumber, D_InvalidQuestion, D_InvalidCase, D_InvalidChange, D_InvalidWish, D_InvalidIndex, D_NotARule, D_OtherSeats, D_InvalidSeats, D_InvalidLines, D_InvalidRows, D_InvalidBids, D_InvalidChanges, D_UnknownName, D_InUse, D_NothingToUndo, D_Broken] D_BadValue D_BadName D_NoAnswer = true)
    : ∃ (fd : FuncData) (ts : List (Addr × Addr × Str)), (∀ p ∈ ts, h.get? p.2.1 = some { cls := .none, data := .fields #[] } ∧ K.lookup p.2.1 = none ∧ PySem.W.CodeHd h p.1 p.2.1) ∧ (∀ (s : Shared) (u : Value), BindsTo s fd ⟨[u], []⟩ [("_law_script", u)]) ∧ ∀ base : Heap, K.In base → base.Ns mainGlobals mg → (∀ p ∈ ts, LamX.TabB base mg p.1 p.2.1) → FnG l.prog w K mg base 5 fa fd ["_law_script"] (sp_law ⟨K, ts.map (·.2)⟩) := by
  obtain ⟨fd, h1, h2⟩ := all_mk (l := l) (w := w) (K := ⟨K, []⟩) (aS := fa) (aO := fa) X G hfa a__law_source l__law_source c__law_source k__law_source a__law_take l__law_take c__law_take k__law_take a__law_odd l__law_odd c__law_odd k__law_odd a__law_sorts l__law_sorts c__law_sorts k__law_sorts a__law_is_right l__law_is_right c__law_is_right k__law_is_right a__law_placed l__law_placed c__law_placed k__law_placed a__law_named l__law_named c__law_named k__law_named a__law_right l__law_right c__law_right k__law_right a_law l_law c_law k_law z_isinstance z_int z_bool z_str z_tuple z_list z_len z_all z_range z_enumerate z_zip z_dict z_abs z_max z_min z_divmod z_repr z_ValueError z_LookupError z_ArithmeticError v_MOST_SEATS v_MOST_LINES v_MOST_ROWS v_MOST_PARTS v_MOST_RING v_MOST_INTEGER v_MOST_CHANGES xq_hn xq_ht xa_BadValue xa_BadName xa_NoAnswer xa_InvalidText xa_InvalidName xa_InvalidNumber xa_InvalidQuestion xa_InvalidCase xa_InvalidChange xa_InvalidWish xa_InvalidIndex xa_NotARule xa_OtherSeats xa_InvalidSeats xa_InvalidLines xa_InvalidRows xa_InvalidBids xa_InvalidChanges xa_UnknownName xa_InUse xa_NothingToUndo xa_Broken xi_InvalidText xg_InvalidText xga_InvalidText xgg_InvalidText xcl_InvalidText xe_InvalidText xk_InvalidText xhd_InvalidText xmo_InvalidText xc_InvalidText xr_InvalidText xs_InvalidText xt_InvalidText a_InvalidText___init__ i_InvalidText___init__ l_InvalidText___init__ c_InvalidText___init__ k_InvalidText___init__ xi_InvalidName xg_InvalidName xga_InvalidName xgg_InvalidName xcl_InvalidName xe_InvalidName xk_InvalidName xhd_InvalidName xmo_InvalidName xc_InvalidName xr_InvalidName xs_InvalidName xt_InvalidName a_InvalidName___init__ i_InvalidName___init__ l_InvalidName___init__ c_InvalidName___init__ k_InvalidName___init__ xi_InvalidNumber xg_InvalidNumber xga_InvalidNumber xgg_InvalidNumber xcl_InvalidNumber xe_InvalidNumber xk_InvalidNumber xhd_InvalidNumber xmo_InvalidNumber xc_InvalidNumber xr_InvalidNumber xs_InvalidNumber xt_InvalidNumber a_InvalidNumber___init__ i_InvalidNumber___init__ l_InvalidNumber___init__ c_InvalidNumber___init__ k_InvalidNumber___init__ xi_InvalidQuestion xg_InvalidQuestion xga_InvalidQuestion xgg_InvalidQuestion xcl_InvalidQuestion xe_InvalidQuestion xk_InvalidQuestion xhd_InvalidQuestion xmo_InvalidQuestion xc_InvalidQuestion xr_InvalidQuestion xs_InvalidQuestion xt_InvalidQuestion a_InvalidQuestion___init__ i_InvalidQuestion___init__ l_InvalidQuestion___init__ c_InvalidQuestion___init__ k_InvalidQuestion___init__ xi_InvalidCase xg_InvalidCase xga_InvalidCase xgg_InvalidCase xcl_InvalidCase xe_InvalidCase xk_InvalidCase xhd_InvalidCase xmo_InvalidCase xc_InvalidCase xr_InvalidCase xs_InvalidCase xt_InvalidCase a_InvalidCase___init__ i_InvalidCase___init__ l_InvalidCase___init__ c_InvalidCase___init__ k_InvalidCase___init__ xi_InvalidChange xg_InvalidChange xga_InvalidChange xgg_InvalidChange xcl_InvalidChange xe_InvalidChange xk_InvalidChange xhd_InvalidChange xmo_InvalidChange xc_InvalidChange xr_InvalidChange xs_InvalidChange xt_InvalidChange a_InvalidChange___init__ i_InvalidChange___init__ l_InvalidChange___init__ c_InvalidChange___init__ k_InvalidChange___init__ xi_InvalidWish xg_InvalidWish xga_InvalidWish xgg_InvalidWish xcl_InvalidWish xe_InvalidWish xk_InvalidWish xhd_InvalidWish xmo_InvalidWish xc_InvalidWish xr_InvalidWish xs_InvalidWish xt_InvalidWish a_InvalidWish___init__ i_InvalidWish___init__ l_InvalidWish___init__ c_InvalidWish___init__ k_InvalidWish___init__ xi_InvalidIndex xg_InvalidIndex xga_InvalidIndex xgg_InvalidIndex xcl_InvalidIndex xe_InvalidIndex xk_InvalidIndex xhd_InvalidIndex xmo_InvalidIndex xc_InvalidIndex xr_InvalidIndex xs_InvalidIndex xt_InvalidIndex a_InvalidIndex___init__ i_InvalidIndex___init__ l_InvalidIndex___init__ c_InvalidIndex___init__ k_InvalidIndex___init__ xi_NotARule xg_NotARule xga_NotARule xgg_NotARule xcl_NotARule xe_NotARule xk_NotARule xhd_NotARule xmo_NotARule xc_NotARule xr_NotARule xs_NotARule xt_NotARule a_NotARule___init__ i_NotARule___init__ l_NotARule___init__ c_NotARule___init__ k_NotARule___init__ xi_OtherSeats xg_OtherSeats xga_OtherSeats xgg_OtherSeats xcl_OtherSeats xe_OtherSeats xk_OtherSeats xhd_OtherSeats xmo_OtherSeats xc_OtherSeats xr_OtherSeats xs_OtherSeats xt_OtherSeats a_OtherSeats___init__ i_OtherSeats___init__ l_OtherSeats___init__ c_OtherSeats___init__ k_OtherSeats___init__ xi_InvalidSeats xg_InvalidSeats xga_InvalidSeats xgg_InvalidSeats xcl_InvalidSeats xe_InvalidSeats xk_InvalidSeats xhd_InvalidSeats xmo_InvalidSeats xc_InvalidSeats xr_InvalidSeats xs_InvalidSeats xt_InvalidSeats a_InvalidSeats___init__ i_InvalidSeats___init__ l_InvalidSeats___init__ c_InvalidSeats___init__ k_InvalidSeats___init__ xi_InvalidLines xg_InvalidLines xga_InvalidLines xgg_InvalidLines xcl_InvalidLines xe_InvalidLines xk_InvalidLines xhd_InvalidLines xmo_InvalidLines xc_InvalidLines xr_InvalidLines xs_InvalidLines xt_InvalidLines a_InvalidLines___init__ i_InvalidLines___init__ l_InvalidLines___init__ c_InvalidLines___init__ k_InvalidLines___init__ xi_InvalidRows xg_InvalidRows xga_InvalidRows xgg_InvalidRows xcl_InvalidRows xe_InvalidRows xk_InvalidRows xhd_InvalidRows xmo_InvalidRows xc_InvalidRows xr_InvalidRows xs_InvalidRows xt_InvalidRows a_InvalidRows___init__ i_InvalidRows___init__ l_InvalidRows___init__ c_InvalidRows___init__ k_InvalidRows___init__ xi_InvalidBids xg_InvalidBids xga_InvalidBids xgg_InvalidBids xcl_InvalidBids xe_InvalidBids xk_InvalidBids xhd_InvalidBids xmo_InvalidBids xc_InvalidBids xr_InvalidBids xs_InvalidBids xt_InvalidBids a_InvalidBids___init__ i_InvalidBids___init__ l_InvalidBids___init__ c_InvalidBids___init__ k_InvalidBids___init__ xi_InvalidChanges xg_InvalidChanges xga_InvalidChanges xgg_InvalidChanges xcl_InvalidChanges xe_InvalidChanges xk_InvalidChanges xhd_InvalidChanges xmo_InvalidChanges xc_InvalidChanges xr_InvalidChanges xs_InvalidChanges xt_InvalidChanges a_InvalidChanges___init__ i_InvalidChanges___init__ l_InvalidChanges___init__ c_InvalidChanges___init__ k_InvalidChanges___init__ xi_UnknownName xg_UnknownName xga_UnknownName xgg_UnknownName xcl_UnknownName xe_UnknownName xk_UnknownName xhd_UnknownName xmo_UnknownName xc_UnknownName xr_UnknownName xs_UnknownName xt_UnknownName a_UnknownName___init__ i_UnknownName___init__ l_UnknownName___init__ c_UnknownName___init__ k_UnknownName___init__ xi_InUse xg_InUse xga_InUse xgg_InUse xcl_InUse xe_InUse xk_InUse xhd_InUse xmo_InUse xc_InUse xr_InUse xs_InUse xt_InUse a_InUse___init__ i_InUse___init__ l_InUse___init__ c_InUse___init__ k_InUse___init__ xi_NothingToUndo xg_NothingToUndo xga_NothingToUndo xgg_NothingToUndo xcl_NothingToUndo xe_NothingToUndo xk_NothingToUndo xhd_NothingToUndo xmo_NothingToUndo xi_Broken xg_Broken xga_Broken xgg_Broken xcl_Broken xe_Broken xk_Broken xhd_Broken xmo_Broken xc_Broken xr_Broken xs_Broken xt_Broken a_Broken___init__ i_Broken___init__ l_Broken___init__ c_Broken___init__ k_Broken___init__ xn_NothingToUndo ki_
  exact ⟨fd, [], fun p hp => (by cases hp), h1, fun base b1 b2 _ => h2 base b1 b2⟩
end Sb

set_option Elab.async false
open PySem PySem.W PyProof.Rows
set_option maxRecDepth 100000 in
set_option maxHeartbeats 0 in
theorem PySem.Challenge.cw_salebids_k01_constants_and_errors_holds : PySem.Challenge.rw_salebids_k01_constants_and_errors.Holds := by
  w_on; o_law; k_head; (case hw => w_witness2)
  k_fill
  refine Sb.walkGTs (l := PySem.Challenge.rw_salebids_k01_constants_and_errors) (n := 63) (k := 5) (x := "_law_script") (sp := fun K => Sb.sp_law K) rfl (by decide) rfl ⟨rfl, by decide, by decide⟩ (fun w h Y => by first | exact PySem.W.km_in_of Y | exact PySem.W.kIn_of Y) ?F (fun K H a ns hl tb hS => ⟨a, ns, rfl, hl, tb, hS, fun _ => rfl⟩)
  case F =>
    intro w mg fa h Y KX G hmg
    refine' Sb.all_mkT KX G hmg ?a__law_source ?l__law_source ?c__law_source ?k__law_source ?a__law_take ?l__law_take ?c__law_take ?k__law_take ?a__law_odd ?l__law_odd ?c__law_odd ?k__law_odd ?a__law_sorts ?l__law_sorts ?c__law_sorts ?k__law_sorts ?a__law_is_right ?l__law_is_right ?c__law_is_right ?k__law_is_right ?a__law_placed ?l__law_placed ?c__law_placed ?k__law_placed ?a__law_named ?l__law_named ?c__law_named ?k__law_named ?a__law_right ?l__law_right ?c__law_right ?k__law_right ?a_law ?l_law ?c_law ?k_law ?z_isinstance ?z_int ?z_bool ?z_str ?z_tuple ?z_list ?z_len ?z_all ?z_range ?z_enumerate ?z_zip ?z_dict ?z_abs ?z_max ?z_min ?z_divmod ?z_repr ?z_ValueError ?z_LookupError ?z_ArithmeticError ?v_MOST_SEATS ?v_MOST_LINES ?v_MOST_ROWS ?v_MOST_PARTS ?v_MOST_RING ?v_MOST_INTEGER ?v_MOST_CHANGES ?xq_hn ?xq_ht ?xa_BadValue ?xa_BadName ?xa_NoAnswer ?xa_InvalidText ?xa_InvalidName ?xa_InvalidNumber ?xa_InvalidQuestion ?xa_InvalidCase ?xa_InvalidChange ?xa_InvalidWish ?xa_InvalidIndex ?xa_NotARule ?xa_OtherSeats ?xa_InvalidSeats ?xa_InvalidLines ?xa_InvalidRows ?xa_InvalidBids ?xa_InvalidChanges ?xa_UnknownName ?xa_InUse ?xa_NothingToUndo ?xa_Broken ?xi_InvalidText ?xg_InvalidText ?xga_InvalidText ?xgg_InvalidText ?xcl_InvalidText ?xe_InvalidText ?xk_InvalidText ?xhd_InvalidText ?xmo_InvalidText ?xc_InvalidText ?zz_xr_InvalidText ?xs_InvalidText ?xt_InvalidText ?a_InvalidText___init__ ?i_InvalidText___init__ ?l_InvalidText___init__ ?c_InvalidText___init__ ?k_InvalidText___init__ ?xi_InvalidName ?xg_InvalidName ?xga_InvalidName ?xgg_InvalidName ?xcl_InvalidName ?xe_InvalidName ?xk_InvalidName ?xhd_InvalidName ?xmo_InvalidName ?xc_InvalidName ?zz_xr_InvalidName ?xs_InvalidName ?xt_InvalidName ?a_InvalidName___init__ ?i_InvalidName___init__ ?l_InvalidName___init__ ?c_InvalidName___init__ ?k_InvalidName___init__ ?xi_InvalidNumber ?xg_InvalidNumber ?xga_InvalidNumber ?xgg_InvalidNumber ?xcl_InvalidNumber ?xe_InvalidNumber ?xk_InvalidNumber ?xhd_InvalidNumber ?xmo_InvalidNumber ?xc_InvalidNumber ?zz_xr_InvalidNumber ?xs_InvalidNumber ?xt_InvalidNumber ?a_InvalidNumber___init__ ?i_InvalidNumber___init__ ?l_InvalidNumber___init__ ?c_InvalidNumber___init__ ?k_InvalidNumber___init__ ?xi_InvalidQuestion ?xg_InvalidQuestion ?xga_InvalidQuestion ?xgg_InvalidQuestion ?xcl_InvalidQuestion ?xe_InvalidQuestion ?xk_InvalidQuestion ?xhd_InvalidQuestion ?xmo_InvalidQuestion ?xc_InvalidQuestion ?zz_xr_InvalidQuestion ?xs_InvalidQuestion ?xt_InvalidQuestion ?a_InvalidQuestion___init__ ?i_InvalidQuestion___init__ ?l_InvalidQuestion___init__ ?c_InvalidQuestion___init__ ?k_InvalidQuestion___init__ ?xi_InvalidCase ?xg_InvalidCase ?xga_InvalidCase ?xgg_InvalidCase ?xcl_InvalidCase ?xe_InvalidCase ?xk_InvalidCase ?xhd_InvalidCase ?xmo_InvalidCase ?xc_InvalidCase ?zz_xr_InvalidCase ?xs_InvalidCase ?xt_InvalidCase ?a_InvalidCase___init__ ?i_InvalidCase___init__ ?l_InvalidCase___init__ ?c_InvalidCase___init__ ?k_InvalidCase___init__ ?xi_InvalidChange ?xg_InvalidChange ?xga_InvalidChange ?xgg_InvalidChange ?xcl_InvalidChange ?xe_InvalidChange ?xk_InvalidChange ?xhd_InvalidChange ?xmo_InvalidChange ?xc_InvalidChange ?zz_xr_InvalidChange ?xs_InvalidChange ?xt_InvalidChange ?a_InvalidChange___init__ ?i_InvalidChange___init__ ?l_InvalidChange___init__ ?c_InvalidChange___init__ ?k_InvalidChange___init__ ?xi_InvalidWish ?xg_InvalidWish ?xga_InvalidWish ?xgg_InvalidWish ?xcl_InvalidWish ?xe_InvalidWish ?xk_InvalidWish ?xhd_InvalidWish ?xmo_InvalidWish ?xc_InvalidWish ?zz_xr_InvalidWish ?xs_InvalidWish ?xt_InvalidWish ?a_InvalidWish___init__ ?i_InvalidWish___init__ ?l_InvalidWish___init__ ?c_InvalidWish___init__ ?k_InvalidWish___init__ ?xi_InvalidIndex ?xg_InvalidIndex ?xga_InvalidIndex ?xgg_InvalidIndex ?xcl_InvalidIndex ?xe_InvalidIndex ?xk_InvalidIndex ?xhd_InvalidIndex ?xmo_InvalidIndex ?xc_InvalidIndex ?zz_xr_InvalidIndex ?xs_InvalidIndex ?xt_InvalidIndex ?a_InvalidIndex___init__ ?i_InvalidIndex___init__ ?l_InvalidIndex___init__ ?c_InvalidIndex___init__ ?k_InvalidIndex___init__ ?xi_NotARule ?xg_NotARule ?xga_NotARule ?xgg_NotARule ?xcl_NotARule ?xe_NotARule ?xk_NotARule ?xhd_NotARule ?xmo_NotARule ?xc_NotARule ?zz_xr_NotARule ?xs_NotARule ?xt_NotARule ?a_NotARule___init__ ?i_NotARule___init__ ?l_NotARule___init__ ?c_NotARule___init__ ?k_NotARule___init__ ?xi_OtherSeats ?xg_OtherSeats ?xga_OtherSeats ?xgg_OtherSeats ?xcl_OtherSeats ?xe_OtherSeats ?xk_OtherSeats ?xhd_OtherSeats ?xmo_OtherSeats ?xc_OtherSeats ?zz_xr_OtherSeats ?xs_OtherSeats ?xt_OtherSeats ?a_OtherSeats___init__ ?i_OtherSeats___init__ ?l_OtherSeats___init__ ?c_OtherSeats___init__ ?k_OtherSeats___init__ ?xi_InvalidSeats ?xg_InvalidSeats ?xga_InvalidSeats ?xgg_InvalidSeats ?xcl_InvalidSeats ?xe_InvalidSeats ?xk_InvalidSeats ?xhd_InvalidSeats ?xmo_InvalidSeats ?xc_InvalidSeats ?zz_xr_InvalidSeats ?xs_InvalidSeats ?xt_InvalidSeats ?a_InvalidSeats___init__ ?i_InvalidSeats___init__ ?l_InvalidSeats___init__ ?c_InvalidSeats___init__ ?k_InvalidSeats___init__ ?xi_InvalidLines ?xg_InvalidLines ?xga_InvalidLines ?xgg_InvalidLines ?xcl_InvalidLines ?xe_InvalidLines ?xk_InvalidLines ?xhd_InvalidLines ?xmo_InvalidLines ?xc_InvalidLines ?zz_xr_InvalidLines ?xs_InvalidLines ?xt_InvalidLines ?a_InvalidLines___init__ ?i_InvalidLines___init__ ?l_InvalidLines___init__ ?c_InvalidLines___init__ ?k_InvalidLines___init__ ?xi_InvalidRows ?xg_InvalidRows ?xga_InvalidRows ?xgg_InvalidRows ?xcl_InvalidRows ?xe_InvalidRows ?xk_InvalidRows ?xhd_InvalidRows ?xmo_InvalidRows ?xc_InvalidRows ?zz_xr_InvalidRows ?xs_InvalidRows ?xt_InvalidRows ?a_InvalidRows___init__ ?i_InvalidRows___init__ ?l_InvalidRows___init__ ?c_InvalidRows___init__ ?k_InvalidRows___init__ ?xi_InvalidBids ?xg_InvalidBids ?xga_InvalidBids ?xgg_InvalidBids ?xcl_InvalidBids ?xe_InvalidBids ?xk_InvalidBids ?xhd_InvalidBids ?xmo_InvalidBids ?xc_InvalidBids ?zz_xr_InvalidBids ?xs_InvalidBids ?xt_InvalidBids ?a_InvalidBids___init__ ?i_InvalidBids___init__ ?l_InvalidBids___init__ ?c_InvalidBids___init__ ?k_InvalidBids___init__ ?xi_InvalidChanges ?xg_InvalidChanges ?xga_InvalidChanges ?xgg_InvalidChanges ?xcl_InvalidChanges ?xe_InvalidChanges ?xk_InvalidChanges ?xhd_InvalidChanges ?xmo_InvalidChanges ?xc_InvalidChanges ?zz_xr_InvalidChanges ?xs_InvalidChanges ?xt_InvalidChanges ?a_InvalidChanges___init__ ?i_InvalidChanges___init__ ?l_InvalidChanges___init__ ?c_InvalidChanges___init__ ?k_InvalidChanges___init__ ?xi_UnknownName ?xg_UnknownName ?xga_UnknownName ?xgg_UnknownName ?xcl_UnknownName ?xe_UnknownName ?xk_UnknownName ?xhd_UnknownName ?xmo_UnknownName ?xc_UnknownName ?zz_xr_UnknownName ?xs_UnknownName ?xt_UnknownName ?a_UnknownName___init__ ?i_UnknownName___init__ ?l_UnknownName___init__ ?c_UnknownName___init__ ?k_UnknownName___init__ ?xi_InUse ?xg_InUse ?xga_InUse ?xgg_InUse ?xcl_InUse ?xe_InUse ?xk_InUse ?xhd_InUse ?xmo_InUse ?xc_InUse ?zz_xr_InUse ?xs_InUse ?xt_InUse ?a_InUse___init__ ?i_InUse___init__ ?l_InUse___init__ ?c_InUse___init__ ?k_InUse___init__ ?xi_NothingToUndo ?xg_NothingToUndo ?xga_NothingToUndo ?xgg_NothingToUndo ?xcl_NothingToUndo ?xe_NothingToUndo ?xk_NothingToUndo ?xhd_NothingToUndo ?xmo_NothingToUndo ?xi_Broken ?xg_Broken ?xga_Broken ?xgg_Broken ?xcl_Broken ?xe_Broken ?xk_Broken ?xhd_Broken ?xmo_Broken ?xc_Broken ?zz_xr_Broken ?xs_Broken ?xt_Broken ?a_Broken___init__ ?i_Broken___init__ ?l_Broken___init__ ?c_Broken___init__ ?k_Broken___init__ ?zz_xn_NothingToUndo ?zz_ki_
    (case a__law_source => k_is)
    (case l__law_source => k_is)
    (case c__law_source => k_is)
    (case k__law_source => k_is)
    (case a__law_take => k_is)
    (case l__law_take => k_is)
    (case c__law_take => k_is)
    (case k__law_take => k_is)
    (case a__law_odd => k_is)
    (case l__law_odd => k_is)
    (case c__law_odd => k_is)
    (case k__law_odd => k_is)
    (case a__law_sorts => k_is)
    (case l__law_sorts => k_is)
    (case c__law_sorts => k_is)
    (case k__law_sorts => k_is)
    (case a__law_is_right => k_is)
    (case l__law_is_right => k_is)
    (case c__law_is_right => k_is)
    (case k__law_is_right => k_is)
    (case a__law_placed => k_is)
    (case l__law_placed => k_is)
    (case c__law_placed => k_is)
    (case k__law_placed => k_is)
    (case a__law_named => k_is)
    (case l__law_named => k_is)
    (case c__law_named => k_is)
    (case k__law_named => k_is)
    (case a__law_right => k_is)
    (case l__law_right => k_is)
    (case c__law_right => k_is)
    (case k__law_right => k_is)
    (case a_law => k_is)
    (case l_law => k_is)
    (case c_law => k_is)
    (case k_law => k_is)
    (case z_isinstance => k_is)
    (case z_int => k_is)
    (case z_bool => k_is)
    (case z_str => k_is)
    (case z_tuple => k_is)
    (case z_list => k_is)
    (case z_len => k_is)
    (case z_all => k_is)
    (case z_range => k_is)
    (case z_enumerate => k_is)
    (case z_zip => k_is)
    (case z_dict => k_is)
    (case z_abs => k_is)
    (case z_max => k_is)
    (case z_min => k_is)
    (case z_divmod => k_is)
    (case z_repr => k_is)
    (case z_ValueError => k_is)
    (case z_LookupError => k_is)
    (case z_ArithmeticError => k_is)
    (case v_MOST_SEATS => k_is)
    (case v_MOST_LINES => k_is)
    (case v_MOST_ROWS => k_is)
    (case v_MOST_PARTS => k_is)
    (case v_MOST_RING => k_is)
    (case v_MOST_INTEGER => k_is)
    (case v_MOST_CHANGES => k_is)
    (case xq_hn => k_is)
    (case xq_ht => k_is)
    (case xa_BadValue => k_is)
    (case xa_BadName => k_is)
    (case xa_NoAnswer => k_is)
    (case xa_InvalidText => k_is)
    (case xa_InvalidName => k_is)
    (case xa_InvalidNumber => k_is)
    (case xa_InvalidQuestion => k_is)
    (case xa_InvalidCase => k_is)
    (case xa_InvalidChange => k_is)
    (case xa_InvalidWish => k_is)
    (case xa_InvalidIndex => k_is)
    (case xa_NotARule => k_is)
    (case xa_OtherSeats => k_is)
    (case xa_InvalidSeats => k_is)
    (case xa_InvalidLines => k_is)
    (case xa_InvalidRows => k_is)
    (case xa_InvalidBids => k_is)
    (case xa_InvalidChanges => k_is)
    (case xa_UnknownName => k_is)
    (case xa_InUse => k_is)
    (case xa_NothingToUndo => k_is)
    (case xa_Broken => k_is)
    (case xi_InvalidText => k_is)
    (case xg_InvalidText => k_is)
    (case xga_InvalidText => k_is)
    (case xgg_InvalidText => k_is)
    (case xcl_InvalidText => k_is)
    (case xe_InvalidText => k_is)
    (case xk_InvalidText => k_is)
    (case xhd_InvalidText => k_is)
    (case xmo_InvalidText => k_is)
    (case xc_InvalidText => k_is)
    (case xs_InvalidText => k_is)
    (case xt_InvalidText => k_is)
    (case a_InvalidText___init__ => k_is)
    (case i_InvalidText___init__ => k_is)
    (case l_InvalidText___init__ => k_is)
    (case c_InvalidText___init__ => k_is)
    (case k_InvalidText___init__ => k_is)
    (case xi_InvalidName => k_is)
    (case xg_InvalidName => k_is)
    (case xga_InvalidName => k_is)
    (case xgg_InvalidName => k_is)
    (case xcl_InvalidName => k_is)
    (case xe_InvalidName => k_is)
    (case xk_InvalidName => k_is)
    (case xhd_InvalidName => k_is)
    (case xmo_InvalidName => k_is)
    (case xc_InvalidName => k_is)
    (case xs_InvalidName => k_is)
    (case xt_InvalidName => k_is)
    (case a_InvalidName___init__ => k_is)
    (case i_InvalidName___init__ => k_is)
    (case l_InvalidName___init__ => k_is)
    (case c_InvalidName___init__ => k_is)
    (case k_InvalidName___init__ => k_is)
    (case xi_InvalidNumber => k_is)
    (case xg_InvalidNumber => k_is)
    (case xga_InvalidNumber => k_is)
    (case xgg_InvalidNumber => k_is)
    (case xcl_InvalidNumber => k_is)
    (case xe_InvalidNumber => k_is)
    (case xk_InvalidNumber => k_is)
    (case xhd_InvalidNumber => k_is)
    (case xmo_InvalidNumber => k_is)
    (case xc_InvalidNumber => k_is)
    (case xs_InvalidNumber => k_is)
    (case xt_InvalidNumber => k_is)
    (case a_InvalidNumber___init__ => k_is)
    (case i_InvalidNumber___init__ => k_is)
    (case l_InvalidNumber___init__ => k_is)
    (case c_InvalidNumber___init__ => k_is)
    (case k_InvalidNumber___init__ => k_is)
    (case xi_InvalidQuestion => k_is)
    (case xg_InvalidQuestion => k_is)
    (case xga_InvalidQuestion => k_is)
    (case xgg_InvalidQuestion => k_is)
    (case xcl_InvalidQuestion => k_is)
    (case xe_InvalidQuestion => k_is)
    (case xk_InvalidQuestion => k_is)
    (case xhd_InvalidQuestion => k_is)
    (case xmo_InvalidQuestion => k_is)
    (case xc_InvalidQuestion => k_is)
    (case xs_InvalidQuestion => k_is)
    (case xt_InvalidQuestion => k_is)
    (case a_InvalidQuestion___init__ => k_is)
    (case i_InvalidQuestion___init__ => k_is)
    (case l_InvalidQuestion___init__ => k_is)
    (case c_InvalidQuestion___init__ => k_is)
    (case k_InvalidQuestion___init__ => k_is)
    (case xi_InvalidCase => k_is)
    (case xg_InvalidCase => k_is)
    (case xga_InvalidCase => k_is)
    (case xgg_InvalidCase => k_is)
    (case xcl_InvalidCase => k_is)
    (case xe_InvalidCase => k_is)
    (case xk_InvalidCase => k_is)
    (case xhd_InvalidCase => k_is)
    (case xmo_InvalidCase => k_is)
    (case xc_InvalidCase => k_is)
    (case xs_InvalidCase => k_is)
    (case xt_InvalidCase => k_is)
    (case a_InvalidCase___init__ => k_is)
    (case i_InvalidCase___init__ => k_is)
    (case l_InvalidCase___init__ => k_is)
    (case c_InvalidCase___init__ => k_is)
    (case k_InvalidCase___init__ => k_is)
    (case xi_InvalidChange => k_is)
    (case xg_InvalidChange => k_is)
    (case xga_InvalidChange => k_is)
    (case xgg_InvalidChange => k_is)
    (case xcl_InvalidChange => k_is)
    (case xe_InvalidChange => k_is)
    (case xk_InvalidChange => k_is)
    (case xhd_InvalidChange => k_is)
    (case xmo_InvalidChange => k_is)
    (case xc_InvalidChange => k_is)
    (case xs_InvalidChange => k_is)
    (case xt_InvalidChange => k_is)
    (case a_InvalidChange___init__ => k_is)
    (case i_InvalidChange___init__ => k_is)
    (case l_InvalidChange___init__ => k_is)
    (case c_InvalidChange___init__ => k_is)
    (case k_InvalidChange___init__ => k_is)
    (case xi_InvalidWish => k_is)
    (case xg_InvalidWish => k_is)
    (case xga_InvalidWish => k_is)
    (case xgg_InvalidWish => k_is)
    (case xcl_InvalidWish => k_is)
    (case xe_InvalidWish => k_is)
    (case xk_InvalidWish => k_is)
    (case xhd_InvalidWish => k_is)
    (case xmo_InvalidWish => k_is)
    (case xc_InvalidWish => k_is)
    (case xs_InvalidWish => k_is)
    (case xt_InvalidWish => k_is)
    (case a_InvalidWish___init__ => k_is)
    (case i_InvalidWish___init__ => k_is)
    (case l_InvalidWish___init__ => k_is)
    (case c_InvalidWish___init__ => k_is)
    (case k_InvalidWish___init__ => k_is)
    (case xi_InvalidIndex => k_is)
    (case xg_InvalidIndex => k_is)
    (case xga_InvalidIndex => k_is)
    (case xgg_InvalidIndex => k_is)
    (case xcl_InvalidIndex => k_is)
    (case xe_InvalidIndex => k_is)
    (case xk_InvalidIndex => k_is)
    (case xhd_InvalidIndex => k_is)
    (case xmo_InvalidIndex => k_is)
    (case xc_InvalidIndex => k_is)
    (case xs_InvalidIndex => k_is)
    (case xt_InvalidIndex => k_is)
    (case a_InvalidIndex___init__ => k_is)
    (case i_InvalidIndex___init__ => k_is)
    (case l_InvalidIndex___init__ => k_is)
    (case c_InvalidIndex___init__ => k_is)
    (case k_InvalidIndex___init__ => k_is)
    (case xi_NotARule => k_is)
    (case xg_NotARule => k_is)
    (case xga_NotARule => k_is)
    (case xgg_NotARule => k_is)
    (case xcl_NotARule => k_is)
    (case xe_NotARule => k_is)
    (case xk_NotARule => k_is)
    (case xhd_NotARule => k_is)
    (case xmo_NotARule => k_is)
    (case xc_NotARule => k_is)
    (case xs_NotARule => k_is)
    (case xt_NotARule => k_is)
    (case a_NotARule___init__ => k_is)
    (case i_NotARule___init__ => k_is)
    (case l_NotARule___init__ => k_is)
    (case c_NotARule___init__ => k_is)
    (case k_NotARule___init__ => k_is)
    (case xi_OtherSeats => k_is)
    (case xg_OtherSeats => k_is)
    (case xga_OtherSeats => k_is)
    (case xgg_OtherSeats => k_is)
    (case xcl_OtherSeats => k_is)
    (case xe_OtherSeats => k_is)
    (case xk_OtherSeats => k_is)
    (case xhd_OtherSeats => k_is)
    (case xmo_OtherSeats => k_is)
    (case xc_OtherSeats => k_is)
    (case xs_OtherSeats => k_is)
    (case xt_OtherSeats => k_is)
    (case a_OtherSeats___init__ => k_is)
    (case i_OtherSeats___init__ => k_is)
    (case l_OtherSeats___init__ => k_is)
    (case c_OtherSeats___init__ => k_is)
    (case k_OtherSeats___init__ => k_is)
    (case xi_InvalidSeats => k_is)
    (case xg_InvalidSeats => k_is)
    (case xga_InvalidSeats => k_is)
    (case xgg_InvalidSeats => k_is)
    (case xcl_InvalidSeats => k_is)
    (case xe_InvalidSeats => k_is)
    (case xk_InvalidSeats => k_is)
    (case xhd_InvalidSeats => k_is)
    (case xmo_InvalidSeats => k_is)
    (case xc_InvalidSeats => k_is)
    (case xs_InvalidSeats => k_is)
    (case xt_InvalidSeats => k_is)
    (case a_InvalidSeats___init__ => k_is)
    (case i_InvalidSeats___init__ => k_is)
    (case l_InvalidSeats___init__ => k_is)
    (case c_InvalidSeats___init__ => k_is)
    (case k_InvalidSeats___init__ => k_is)
    (case xi_InvalidLines => k_is)
    (case xg_InvalidLines => k_is)
    (case xga_InvalidLines => k_is)
    (case xgg_InvalidLines => k_is)
    (case xcl_InvalidLines => k_is)
    (case xe_InvalidLines => k_is)
    (case xk_InvalidLines => k_is)
    (case xhd_InvalidLines => k_is)
    (case xmo_InvalidLines => k_is)
    (case xc_InvalidLines => k_is)
    (case xs_InvalidLines => k_is)
    (case xt_InvalidLines => k_is)
    (case a_InvalidLines___init__ => k_is)
    (case i_InvalidLines___init__ => k_is)
    (case l_InvalidLines___init__ => k_is)
    (case c_InvalidLines___init__ => k_is)
    (case k_InvalidLines___init__ => k_is)
    (case xi_InvalidRows => k_is)
    (case xg_InvalidRows => k_is)
    (case xga_InvalidRows => k_is)
    (case xgg_InvalidRows => k_is)
    (case xcl_InvalidRows => k_is)
    (case xe_InvalidRows => k_is)
    (case xk_InvalidRows => k_is)
    (case xhd_InvalidRows => k_is)
    (case xmo_InvalidRows => k_is)
    (case xc_InvalidRows => k_is)
    (case xs_InvalidRows => k_is)
    (case xt_InvalidRows => k_is)
    (case a_InvalidRows___init__ => k_is)
    (case i_InvalidRows___init__ => k_is)
    (case l_InvalidRows___init__ => k_is)
    (case c_InvalidRows___init__ => k_is)
    (case k_InvalidRows___init__ => k_is)
    (case xi_InvalidBids => k_is)
    (case xg_InvalidBids => k_is)
    (case xga_InvalidBids => k_is)
    (case xgg_InvalidBids => k_is)
    (case xcl_InvalidBids => k_is)
    (case xe_InvalidBids => k_is)
    (case xk_InvalidBids => k_is)
    (case xhd_InvalidBids => k_is)
    (case xmo_InvalidBids => k_is)
    (case xc_InvalidBids => k_is)
    (case xs_InvalidBids => k_is)
    (case xt_InvalidBids => k_is)
    (case a_InvalidBids___init__ => k_is)
    (case i_InvalidBids___init__ => k_is)
    (case l_InvalidBids___init__ => k_is)
    (case c_InvalidBids___init__ => k_is)
    (case k_InvalidBids___init__ => k_is)
    (case xi_InvalidChanges => k_is)
    (case xg_InvalidChanges => k_is)
    (case xga_InvalidChanges => k_is)
    (case xgg_InvalidChanges => k_is)
    (case xcl_InvalidChanges => k_is)
    (case xe_InvalidChanges => k_is)
    (case xk_InvalidChanges => k_is)
    (case xhd_InvalidChanges => k_is)
    (case xmo_InvalidChanges => k_is)
    (case xc_InvalidChanges => k_is)
    (case xs_InvalidChanges => k_is)
    (case xt_InvalidChanges => k_is)
    (case a_InvalidChanges___init__ => k_is)
    (case i_InvalidChanges___init__ => k_is)
    (case l_InvalidChanges___init__ => k_is)
    (case c_InvalidChanges___init__ => k_is)
    (case k_InvalidChanges___init__ => k_is)
    (case xi_UnknownName => k_is)
    (case xg_UnknownName => k_is)
    (case xga_UnknownName => k_is)
    (case xgg_UnknownName => k_is)
    (case xcl_UnknownName => k_is)
    (case xe_UnknownName => k_is)
    (case xk_UnknownName => k_is)
    (case xhd_UnknownName => k_is)
    (case xmo_UnknownName => k_is)
    (case xc_UnknownName => k_is)
    (case xs_UnknownName => k_is)
    (case xt_UnknownName => k_is)
    (case a_UnknownName___init__ => k_is)
    (case i_UnknownName___init__ => k_is)
    (case l_UnknownName___init__ => k_is)
    (case c_UnknownName___init__ => k_is)
    (case k_UnknownName___init__ => k_is)
    (case xi_InUse => k_is)
    (case xg_InUse => k_is)
    (case xga_InUse => k_is)
    (case xgg_InUse => k_is)
    (case xcl_InUse => k_is)
    (case xe_InUse => k_is)
    (case xk_InUse => k_is)
    (case xhd_InUse => k_is)
    (case xmo_InUse => k_is)
    (case xc_InUse => k_is)
    (case xs_InUse => k_is)
    (case xt_InUse => k_is)
    (case a_InUse___init__ => k_is)
    (case i_InUse___init__ => k_is)
    (case l_InUse___init__ => k_is)
    (case c_InUse___init__ => k_is)
    (case k_InUse___init__ => k_is)
    (case xi_NothingToUndo => k_is)
    (case xg_NothingToUndo => k_is)
    (case xga_NothingToUndo => k_is)
    (case xgg_NothingToUndo => k_is)
    (case xcl_NothingToUndo => k_is)
    (case xe_NothingToUndo => k_is)
    (case xk_NothingToUndo => k_is)
    (case xhd_NothingToUndo => k_is)
    (case xmo_NothingToUndo => k_is)
    (case xi_Broken => k_is)
    (case xg_Broken => k_is)
    (case xga_Broken => k_is)
    (case xgg_Broken => k_is)
    (case xcl_Broken => k_is)
    (case xe_Broken => k_is)
    (case xk_Broken => k_is)
    (case xhd_Broken => k_is)
    (case xmo_Broken => k_is)
    (case xc_Broken => k_is)
    (case xs_Broken => k_is)
    (case xt_Broken => k_is)
    (case a_Broken___init__ => k_is)
    (case i_Broken___init__ => k_is)
    (case l_Broken___init__ => k_is)
    (case c_Broken___init__ => k_is)
    (case k_Broken___init__ => k_is)
    (case zz_xr_InvalidText => rfl)
    (case zz_xr_InvalidName => rfl)
    (case zz_xr_InvalidNumber => rfl)
    (case zz_xr_InvalidQuestion => rfl)
    (case zz_xr_InvalidCase => rfl)
    (case zz_xr_InvalidChange => rfl)
    (case zz_xr_InvalidWish => rfl)
    (case zz_xr_InvalidIndex => rfl)
    (case zz_xr_NotARule => rfl)
    (case zz_xr_OtherSeats => rfl)
    (case zz_xr_InvalidSeats => rfl)
    (case zz_xr_InvalidLines => rfl)
    (case zz_xr_InvalidRows => rfl)
    (case zz_xr_InvalidBids => rfl)
    (case zz_xr_InvalidChanges => rfl)
    (case zz_xr_UnknownName => rfl)
    (case zz_xr_InUse => rfl)
    (case zz_xr_Broken => rfl)
    (case zz_xn_NothingToUndo => kernel_rfl)
    (case zz_ki_ => kernel_rfl)
