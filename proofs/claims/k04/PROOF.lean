import PyProof.Rows.All
import Wide.All
import OpenK.AllK
import Wide.FinOn
import HandS.ForMost
import HandS.ForExc
import HandS.IsInst
import HandS.Codes
import HandS.Conv
import HandS.Zip
import HandS.FStr
import HandS.Property
import HandS.Flow
import HandS.MakeKw
import HandS.WideBits
import HandS.Steps
import HandS.Lambda
import KE.GoesEnum
import KE.GoesZip
import KE.KDictZip
import HandS.Style
import KE.KUnpackStar
import HandS.ExcValue
import HandS.ClsMeth
import HandS.Defaults
import HandS.OwnEq
import HandS.MakeKwOnly
import KE.KCallOwn
import HandS.TupAny
import HandS.TryOnly
import KE.SortKeyHeap
import KE.SortData
import KE.KLam
import HandS.SortKw
import HandS.EndTab
import PySem.Challenge.RW_salebids_k04_standing_of_seats
set_option Elab.async false
set_option linter.all false
set_option maxRecDepth 100000
namespace Sb
open PySem PySem.Spec L2

/-! ### data, without the heap -/
inductive Dt where
  | non | bl (b : Bool) | int (i : Int) | str (x : Str) | lst (ds : List Dt) | tup (ds : List Dt)
  | dic (kvs : List (Str × Dt)) | dii (kvs : List (Int × Int)) | obj (C : Addr) (fs : List (Str × Dt))

/-- a dict of ints to ints -/
def diK (kvs : List (Int × Int)) : List (Key × V) := kvs.map fun q => (.inl q.1, .int q.2)
mutual
def Dn (K : PySem.W.Frag) (H : Hp) : Dt → V → Prop
  | .non, v => v = .non
  | .bl b, v => v = .bl b
  | .int i, v => v = .int i
  | .str x, v => v = .str x
  | .lst ds, v => ∃ a xs, v = .ref a ∧ H a = some (.lst xs) ∧ DnA K H ds xs
  | .tup ds, v => ∃ a xs, v = .ref a ∧ SqT K H a xs ∧ DnA K H ds xs
  | .dic ds, v => ∃ a kvs, v = .ref a ∧ H a = some (.dK kvs) ∧ DnK K H ds kvs
  | .dii ds, v => ∃ a, v = .ref a ∧ H a = some (.dK (diK ds))
  | .obj C ds, v => ∃ a dx fs, v = .ref a ∧ H a = some (.ins C dx fs) ∧ DnF K H ds fs
def DnA (K : PySem.W.Frag) (H : Hp) : List Dt → List V → Prop
  | [], vs => vs = []
  | d :: ds, vs => ∃ v r, vs = v :: r ∧ Dn K H d v ∧ DnA K H ds r
def DnK (K : PySem.W.Frag) (H : Hp) : List (Str × Dt) → List (Key × V) → Prop
  | [], vs => vs = []
  | (x, d) :: ds, vs => ∃ v r, vs = (.inr x, v) :: r ∧ Dn K H d v ∧ DnK K H ds r
def DnF (K : PySem.W.Frag) (H : Hp) : List (Str × Dt) → List (Str × V) → Prop
  | [], vs => vs = []
  | (x, d) :: ds, vs => ∃ v r, vs = (x, v) :: r ∧ Dn K H d v ∧ DnF K H ds r
end

/-- what stands in H stands in H' -/
def Ex (H H' : Hp) : Prop :=
  ∀ a o, H a = some o → H' a = some o
theorem Ex.refl (H : Hp) : Ex H H :=
  fun _ _ q => q
theorem Ex.trans {H H1 H2 : Hp} (f : Ex H H1) (g : Ex H1 H2) : Ex H H2 :=
  fun x o q => g x o (f x o q)
/-- not a table of code objects -/
def NT (o : HO) : Prop := ∀ ps, o ≠ .tbl ps
/-- what stands in H stands in H', the tables aside -/
def ExN (H H' : Hp) : Prop :=
  ∀ a o, H a = some o → NT o → H' a = some o
theorem Ex.n {H H' : Hp} (e : Ex H H') : ExN H H' := fun a o h _ => e a o h
instance {H H' : Hp} : Coe (Ex H H') (ExN H H') := ⟨Ex.n⟩
theorem ExN.refl (H : Hp) : ExN H H := fun _ _ q _ => q
theorem ExN.trans {H H1 H2 : Hp} (f : ExN H H1) (g : ExN H1 H2) : ExN H H2 := fun x o q n => g x o (f x o q n) n
theorem nt_lst {xs : List V} : NT (.lst xs) := fun ps z => by cases z
theorem nt_tup {xs : List V} : NT (.tup xs) := fun ps z => by cases z
theorem nt_frz {u : Obj} {o : HO} : NT (.frz u o) := fun ps z => by cases z
theorem nt_dK {xs : List (Key × V)} : NT (.dK xs) := fun ps z => by cases z
theorem nt_ins {C dx : Addr} {fs : List (Str × V)} : NT (.ins C dx fs) := fun ps z => by cases z
/-- what the texts say of the module's written part, and of the tables of code objects -/
structure KX where
  fr : PySem.W.Frag
  tb : List (Addr × Str)
instance : Coe KX PySem.W.Frag := ⟨KX.fr⟩
abbrev Tb (K : KX) (H : Hp) : Prop := LamX.Tabs K.tb H
theorem ExN.sqL {K : PySem.W.Frag} {H H' : Hp} (e : ExN H H') {a : Addr} {xs : List V} (h : SqL K H a xs) : SqL K H' a xs := by
  rcases h with (h | ⟨o, h⟩) | h
  · exact .inl (.inl (e _ _ h nt_lst))
  · exact .inl (.inr ⟨o, e _ _ h nt_frz⟩)
  · exact .inr h
theorem ExN.sqT {K : PySem.W.Frag} {H H' : Hp} (e : ExN H H') {a : Addr} {xs : List V} (h : SqT K H a xs) : SqT K H' a xs := by
  rcases h with (h | ⟨o, h⟩) | h
  · exact .inl (.inl (e _ _ h nt_tup))
  · exact .inl (.inr ⟨o, e _ _ h nt_frz⟩)
  · exact .inr h
theorem Ex.sqL {K : PySem.W.Frag} {H H' : Hp} (e : Ex H H') {a : Addr} {xs : List V} (h : SqL K H a xs) : SqL K H' a xs := e.n.sqL h
theorem Ex.sqT {K : PySem.W.Frag} {H H' : Hp} (e : Ex H H') {a : Addr} {xs : List V} (h : SqT K H a xs) : SqT K H' a xs := e.n.sqT h
mutual
theorem Dn.mono {K : PySem.W.Frag} {H H' : Hp} (e : ExN H H') : ∀ (d : Dt) {v : V}, Dn K H d v → Dn K H' d v
  | .non, _, h => h
  | .bl _, _, h => h
  | .int _, _, h => h
  | .str _, _, h => h
  | .lst ds, _, h => by
    obtain ⟨a, xs, rfl, h1, h2⟩ := h
    exact ⟨a, xs, rfl, e _ _ h1 nt_lst, DnA.mono e ds h2⟩
  | .tup ds, _, h => by
    obtain ⟨a, xs, rfl, h1, h2⟩ := h
    exact ⟨a, xs, rfl, e.sqT h1, DnA.mono e ds h2⟩
  | .dic ds, _, h => by
    obtain ⟨a, xs, rfl, h1, h2⟩ := h
    exact ⟨a, xs, rfl, e _ _ h1 nt_dK, DnK.mono e ds h2⟩
  | .dii ds, _, h => by
    obtain ⟨a, rfl, h1⟩ := h
    exact ⟨a, rfl, e _ _ h1 nt_dK⟩
  | .obj C ds, _, h => by
    obtain ⟨a, dx, xs, rfl, h1, h2⟩ := h
    exact ⟨a, dx, xs, rfl, e _ _ h1 nt_ins, DnF.mono e ds h2⟩
theorem DnA.mono {K : PySem.W.Frag} {H H' : Hp} (e : ExN H H') : ∀ (d : List Dt) {v : List V}, DnA K H d v → DnA K H' d v
  | [], _, h => h
  | d :: ds, _, h => by
    obtain ⟨v, r, rfl, h1, h2⟩ := h
    exact ⟨v, r, rfl, Dn.mono e d h1, DnA.mono e ds h2⟩
theorem DnK.mono {K : PySem.W.Frag} {H H' : Hp} (e : ExN H H') : ∀ (d : List (Str × Dt)) {v : List (Key × V)}, DnK K H d v → DnK K H' d v
  | [], _, h => h
  | (x, d) :: ds, _, h => by
    obtain ⟨v, r, rfl, h1, h2⟩ := h
    exact ⟨v, r, rfl, Dn.mono e d h1, DnK.mono e ds h2⟩
theorem DnF.mono {K : PySem.W.Frag} {H H' : Hp} (e : ExN H H') : ∀ (d : List (Str × Dt)) {v : List (Str × V)}, DnF K H d v → DnF K H' d v
  | [], _, h => h
  | (x, d) :: ds, _, h => by
    obtain ⟨v, r, rfl, h1, h2⟩ := h
    exact ⟨v, r, rfl, Dn.mono e d h1, DnF.mono e ds h2⟩
end
end Sb

set_option Elab.async false
set_option linter.all false
set_option maxRecDepth 100000
set_option autoImplicit false
namespace Sb
open PySem PySem.Spec L2
variable {K : PySem.W.Frag}

theorem DnA.len : ∀ {ds : List Dt} {vs : List V} {H : Hp}, DnA K H ds vs → vs.length = ds.length
  | [], _, _, h => by cases (show _ = [] from h); rfl
  | d :: ds, _, _, h => by
    obtain ⟨v, r, rfl, _, h2⟩ := h
    rw [List.length_cons, List.length_cons, DnA.len h2]
theorem DnA.get : ∀ {ds : List Dt} {vs : List V} {H : Hp} {i : Nat} {d : Dt}, DnA K H ds vs → ds[i]? = some d → ∃ v, vs[i]? = some v ∧ Dn K H d v
  | [], _, _, _, _, _, e => by simp at e
  | d :: ds, _, _, 0, _, h, e => by
    obtain ⟨v, r, rfl, h1, _⟩ := h
    cases (show some d = some _ from e)
    exact ⟨v, rfl, h1⟩
  | d :: ds, _, _, i + 1, _, h, e => by
    obtain ⟨v, r, rfl, _, h2⟩ := h
    exact DnA.get (i := i) h2 e
theorem DnA.getV : ∀ {ds : List Dt} {vs : List V} {H : Hp} {i : Nat} {v : V}, DnA K H ds vs → vs[i]? = some v → ∃ d, ds[i]? = some d ∧ Dn K H d v := fun {ds vs H i v} h e => by
  have hl := DnA.len h
  have hi : i < vs.length := (List.getElem?_eq_some_iff.mp e).1
  have hd : ds[i]? = some (ds[i]'(by omega)) := List.getElem?_eq_getElem _
  obtain ⟨w, e2, h2⟩ := DnA.get h hd
  rw [e] at e2
  cases e2
  exact ⟨_, hd, h2⟩
theorem DnA.app : ∀ {ds es : List Dt} {vs ws : List V} {H : Hp}, DnA K H ds vs → DnA K H es ws → DnA K H (ds ++ es) (vs ++ ws)
  | [], _, _, _, _, h, g => by cases (show _ = [] from h); exact g
  | d :: ds, _, _, _, _, h, g => by
    obtain ⟨v, r, rfl, h1, h2⟩ := h
    exact ⟨v, _, rfl, h1, DnA.app h2 g⟩
theorem DnA.one {d : Dt} {v : V} {H : Hp} (h : Dn K H d v) : DnA K H [d] [v] := ⟨v, [], rfl, h, rfl⟩
theorem DnA.tk : ∀ {ds : List Dt} {vs : List V} {H : Hp} (n : Nat), DnA K H ds vs → DnA K H (ds.take n) (vs.take n)
  | [], _, _, n, h => by cases (show _ = [] from h); rw [List.take_nil, List.take_nil]; exact rfl
  | d :: ds, _, _, 0, h => rfl
  | d :: ds, _, _, n + 1, h => by
    obtain ⟨v, r, rfl, h1, h2⟩ := h
    exact ⟨v, _, rfl, h1, DnA.tk n h2⟩
theorem DnA.dp : ∀ {ds : List Dt} {vs : List V} {H : Hp} (n : Nat), DnA K H ds vs → DnA K H (ds.drop n) (vs.drop n)
  | [], _, _, n, h => by cases (show _ = [] from h); rw [List.drop_nil, List.drop_nil]; exact rfl
  | d :: ds, _, _, 0, h => h
  | d :: ds, _, _, n + 1, h => by
    obtain ⟨v, r, rfl, h1, h2⟩ := h
    exact DnA.dp n h2

/-! ### slots -/
inductive Sl where
  | un | da (d : Dt) | ow (p : Addr) (ds : List Dt) | od (p : Addr) (kvs : List (Str × Dt)) | oi (p : Addr) (kvs : List (Int × Int)) | sr (p : Addr) | rf (p : Addr)
def Sl.ad : Sl → Option Addr
  | .ow p _ => some p
  | .od p _ => some p
  | .oi p _ => some p
  | .sr p => some p
  | _ => none
def Sl.sd : Sl → Option Addr
  | .sr p => some p
  | _ => none
def ads (G : List Sl) : List Addr := G.filterMap Sl.ad
def srs (G : List Sl) : List Addr := G.filterMap Sl.sd
def hid (H : Hp) (P : List Addr) : Hp := fun a => if a ∈ P then none else H a
theorem hid_out {H : Hp} {P : List Addr} {a : Addr} (h : a ∉ P) : hid H P a = H a := if_neg h
theorem hid_in {H : Hp} {P : List Addr} {a : Addr} (h : a ∈ P) : hid H P a = none := if_pos h
theorem hid_some {H : Hp} {P : List Addr} {a : Addr} {o : HO} (h : hid H P a = some o) : a ∉ P ∧ H a = some o := by
  by_cases q : a ∈ P
  · rw [hid_in q] at h; cases h
  · rw [hid_out q] at h; exact ⟨q, h⟩
theorem hid_ex {H : Hp} (P : List Addr) : Ex (hid H P) H := fun a o h => (hid_some h).2
theorem hid_subS {H : Hp} {P P' : List Addr} (h : ∀ a ∈ P', a ∈ P) : Ex (hid H P) (hid H P') := fun a o e => by
  obtain ⟨h1, h2⟩ := hid_some e
  rw [hid_out fun z => h1 (h a z)]
  exact h2
theorem hid_sub {H : Hp} {P P' : List Addr} (h : ∀ a ∈ P', a ∈ P) : ExN (hid H P) (hid H P') := (hid_subS h).n
theorem hid_monoS {H H' : Hp} {P : List Addr} (e : ∀ a o, a ∉ P → H a = some o → H' a = some o) : Ex (hid H P) (hid H' P) := fun a o h => by
  obtain ⟨h1, h2⟩ := hid_some h
  rw [hid_out h1]
  exact e a o h1 h2
theorem hid_mono {H H' : Hp} {P : List Addr} (e : ∀ a o, a ∉ P → H a = some o → H' a = some o) : ExN (hid H P) (hid H' P) := (hid_monoS e).n
theorem hid_monoN {H H' : Hp} {P : List Addr} (e : ∀ a o, a ∉ P → H a = some o → NT o → H' a = some o) : ExN (hid H P) (hid H' P) := fun a o h n => by
  obtain ⟨h1, h2⟩ := hid_some h
  rw [hid_out h1]
  exact e a o h1 h2 n
theorem hid_new {H : Hp} {P : List Addr} {p : Addr} {o : HO} (h : H p = none) : ExN (hid H P) (hid (upd H p o) P) := hid_mono fun a u _ e => by
  rw [upd_ne (ne_of_none e h)]
  exact e
theorem hid_up {H : Hp} {P : List Addr} {p : Addr} {o : HO} (h : p ∈ P) : ExN (hid H P) (hid (upd H p o) P) := hid_mono fun a u ha e => by
  rw [upd_ne fun z => ha (by rw [z]; exact h)]
  exact e

def SrcAt (H : Hp) (p : Addr) : Prop := ∃ x y z : Int, H p = some (.lst [.int x, .int y, .int z])
def SlOk (K : PySem.W.Frag) (P : List Addr) (H : Hp) (o : Option V) : Sl → Prop
  | .un => True
  | .da d => ∃ v, o = some v ∧ Dn K (hid H P) d v
  | .ow p ds => o = some (.ref p) ∧ ∃ xs, H p = some (.lst xs) ∧ DnA K (hid H P) ds xs
  | .od p ds => o = some (.ref p) ∧ ∃ xs, H p = some (.dK xs) ∧ DnK K (hid H P) ds xs
  | .oi p ds => o = some (.ref p) ∧ H p = some (.dK (diK ds))
  | .sr p => o = some (.ref p) ∧ SrcAt H p
  | .rf p => o = some (.ref p)
abbrev Ow := List (Addr × HO)
def pof (O : Ow) (G : List Sl) : List Addr := O.map (·.1) ++ ads G
structure Hold (K : KX) (B : Hp) (S : List Addr) (O : Ow) (G : List Sl) (H : Hp) (σ : St) : Prop where
  len : σ.length = G.length
  sl : ∀ (i : Nat) (s : Sl), G[i]? = some s → ∃ o, σ[i]? = some o ∧ SlOk K (pof O G) H o s
  nd : (pof O G).Nodup
  ss : srs G = S
  ex : ∀ a o, B a = some o → NT o → a ∉ S → hid H (pof O G) a = some o
  oo : ∀ q ∈ O, H q.1 = some q.2
  on : ∀ q ∈ O, NT q.2
  tb : Tb K H
abbrev Gr (P : List Addr) (H H' : Hp) : Prop := ExN (hid H P) (hid H' P)
theorem Gr.refl (P : List Addr) (H : Hp) : Gr P H H := ExN.refl _
theorem Gr.trans {P : List Addr} {H H1 H2 : Hp} (a : Gr P H H1) (b : Gr P H1 H2) : Gr P H H2 := ExN.trans a b
/-- the tables stand as long as what changes is none, and no code object -/
theorem tabs_past {T : List (Addr × Str)} {H H' : Hp} {p : Addr} (t : LamX.Tabs T H) (h1 : ∀ ps, H p ≠ some (.tbl ps)) (h2 : ∀ q, H p ≠ some (LamX.CodeO p q)) (g : ∀ a o, a ≠ p → H a = some o → H' a = some o) : LamX.Tabs T H' := fun r hr => by
  obtain ⟨ps, e1, e2, e3⟩ := t r hr
  refine ⟨ps, g _ _ (fun z => h1 ps (by rw [← z]; exact e1)) e1, e2, fun pos cv hc => ?_⟩
  obtain ⟨c, ec, hc'⟩ := e3 pos cv hc
  exact ⟨c, ec, g _ _ (fun z => h2 r.2 (by rw [← z]; exact hc')) hc'⟩
theorem not_tbl {H : Hp} {p : Addr} {o : HO} (e : H p = some o) (n : NT o) : ∀ ps, H p ≠ some (.tbl ps) := fun ps z => by
  rw [e] at z
  exact n ps (Option.some.inj z)
/-- not a code object -/
def NC (o : HO) : Prop := ∀ P, o ≠ .ext P
theorem not_cod {H : Hp} {p : Addr} {o : HO} (e : H p = some o) (n : NC o) : ∀ q, H p ≠ some (LamX.CodeO p q) := fun q z => by
  rw [e] at z
  exact n _ (Option.some.inj z)
theorem nc_lst {xs : List V} : NC (.lst xs) := fun ps z => by cases z
theorem nc_ins {C dx : Addr} {fs : List (Str × V)} : NC (.ins C dx fs) := fun ps z => by cases z
theorem nc_dK {xs : List (Key × V)} : NC (.dK xs) := fun ps z => by cases z

section
variable {K : KX} {B : Hp} {S : List Addr} {O : Ow} {G : List Sl} {H H' : Hp} {σ : St}
theorem mem_ads {i : Nat} {s : Sl} {p : Addr} (h : G[i]? = some s) (e : s.ad = some p) : p ∈ ads G := List.mem_filterMap.mpr ⟨s, List.mem_of_getElem? h, e⟩
theorem Hold.tracked (h : Hold K B S O G H σ) {p : Addr} (hp : p ∈ pof O G) : ∃ o, H p = some o ∧ NT o := by
  rcases List.mem_append.mp hp with z | z
  · obtain ⟨q, hq, rfl⟩ := List.mem_map.mp z
    exact ⟨_, h.oo q hq, h.on q hq⟩
  · obtain ⟨s, hs, e⟩ := List.mem_filterMap.mp z
    obtain ⟨i, hi⟩ := List.mem_iff_getElem?.mp hs
    obtain ⟨o, _, hk⟩ := h.sl i s hi
    cases s with
    | un => cases e
    | rf q => cases e
    | da d => cases e
    | ow q ds =>
      cases e
      obtain ⟨_, xs, h1, _⟩ := hk
      exact ⟨_, h1, nt_lst⟩
    | od q ds =>
      cases e
      obtain ⟨_, xs, h1, _⟩ := hk
      exact ⟨_, h1, nt_dK⟩
    | oi q ds =>
      cases e
      exact ⟨_, hk.2, nt_dK⟩
    | sr q =>
      cases e
      obtain ⟨_, x, y, z, h1⟩ := hk
      exact ⟨_, h1, nt_lst⟩
theorem Hold.fresh (h : Hold K B S O G H σ) {p : Addr} (hp : H p = none) : p ∉ pof O G := fun z => by
  obtain ⟨o, e, _⟩ := h.tracked z
  rw [hp] at e
  cases e
/-- the heap has grown; what is own stays, a source may have turned -/
theorem Hold.grow (h : Hold K B S O G H σ) (g : Gr (pof O G) H H') (ho : ∀ a ∈ pof O G, a ∉ S → H' a = H a) (hs : ∀ a ∈ S, SrcAt H a → SrcAt H' a) (hS : ∀ q ∈ O, q.1 ∉ S) (hA : ∀ (i : Nat) (s : Sl) (p : Addr), G[i]? = some s → s.ad = some p → s.sd = none → p ∉ S) (ht : Tb K H') : Hold K B S O G H' σ where
  len := h.len
  sl := fun i s e => by
    obtain ⟨o, h1, h2⟩ := h.sl i s e
    refine ⟨o, h1, ?_⟩
    cases s with
    | un => trivial
    | rf q => exact h2
    | da d =>
      obtain ⟨v, e1, e2⟩ := h2
      exact ⟨v, e1, Dn.mono g d e2⟩
    | ow p ds =>
      obtain ⟨e1, xs, e2, e3⟩ := h2
      refine ⟨e1, xs, ?_, DnA.mono g ds e3⟩
      rw [ho p (List.mem_append_right _ (mem_ads e rfl)) (hA i _ p e rfl rfl)]
      exact e2
    | od p ds =>
      obtain ⟨e1, xs, e2, e3⟩ := h2
      refine ⟨e1, xs, ?_, DnK.mono g ds e3⟩
      rw [ho p (List.mem_append_right _ (mem_ads e rfl)) (hA i _ p e rfl rfl)]
      exact e2
    | oi p ds =>
      obtain ⟨e1, e2⟩ := h2
      refine ⟨e1, ?_⟩
      rw [ho p (List.mem_append_right _ (mem_ads e rfl)) (hA i _ p e rfl rfl)]
      exact e2
    | sr p =>
      obtain ⟨e1, e2⟩ := h2
      refine ⟨e1, hs p ?_ e2⟩
      rw [← h.ss]
      exact List.mem_filterMap.mpr ⟨_, List.mem_of_getElem? e, rfl⟩
  nd := h.nd
  ss := h.ss
  ex := fun a o e nt n => g a o (h.ex a o e nt n) nt
  on := h.on
  tb := ht
  oo := fun q hq => by
    rw [ho q.1 (List.mem_append_left _ (List.mem_map_of_mem hq)) (hS q hq)]
    exact h.oo q hq
theorem Hold.srcIn (h : Hold K B S O G H σ) {a : Addr} (ha : a ∈ S) : ∃ i : Nat, G[i]? = some (.sr a) := by
  rw [← h.ss] at ha
  obtain ⟨s, hs, e⟩ := List.mem_filterMap.mp ha
  obtain ⟨i, hi⟩ := List.mem_iff_getElem?.mp hs
  cases s with
  | sr q => cases e; exact ⟨i, hi⟩
  | un => cases e
  | rf q => cases e
  | da d => cases e
  | ow q ds => cases e
  | od q ds => cases e
  | oi q ds => cases e
theorem nodup_ads {G : List Sl} : (ads G).Nodup → ∀ {i j : Nat} {s t : Sl} {p : Addr}, G[i]? = some s → G[j]? = some t → s.ad = some p → t.ad = some p → i = j := by
  induction G with
  | nil => intro _ i j s t p h; simp at h
  | cons a G ih =>
    intro nd i j s t p hi hj es et
    have key : ∀ {l : Nat} {u : Sl}, G[l]? = some u → u.ad = some p → a.ad = some p → False := fun {l u} hl eu ea => by
      have n1 : (ads (a :: G)) = p :: ads G := by unfold ads; rw [List.filterMap_cons, ea]
      rw [n1] at nd
      exact (List.nodup_cons.mp nd).1 (mem_ads hl eu)
    have nd' : (ads G).Nodup := by
      cases ea : a.ad with
      | none =>
        have n1 : (ads (a :: G)) = ads G := by unfold ads; rw [List.filterMap_cons, ea]
        rw [n1] at nd
        exact nd
      | some q =>
        have n1 : (ads (a :: G)) = q :: ads G := by unfold ads; rw [List.filterMap_cons, ea]
        rw [n1] at nd
        exact (List.nodup_cons.mp nd).2
    cases i with
    | zero =>
      cases j with
      | zero => rfl
      | succ j =>
        have hi : a = s := Option.some.inj hi
        subst hi
        exact (key (l := j) hj et es).elim
    | succ i =>
      cases j with
      | zero =>
        have hj : a = t := Option.some.inj hj
        subst hj
        exact (key (l := i) hi es et).elim
      | succ j => rw [ih nd' (i := i) (j := j) hi hj es et]
theorem Hold.ndA (h : Hold K B S O G H σ) : (ads G).Nodup := (List.nodup_append.mp h.nd).2.1
theorem Hold.OnotS (h : Hold K B S O G H σ) : ∀ q ∈ O, q.1 ∉ S := fun q hq z => by
  obtain ⟨i, hi⟩ := h.srcIn z
  exact (List.nodup_append.mp h.nd).2.2 q.1 (List.mem_map_of_mem hq) q.1 (mem_ads hi rfl) rfl
theorem Hold.AnotS (h : Hold K B S O G H σ) : ∀ (i : Nat) (s : Sl) (p : Addr), G[i]? = some s → s.ad = some p → s.sd = none → p ∉ S := fun i s p e e1 e2 z => by
  obtain ⟨j, hj⟩ := h.srcIn z
  have := nodup_ads h.ndA e hj e1 rfl
  subst this
  rw [e] at hj
  cases hj
  cases e2
/-- the heap has grown, nothing that stood has changed but tables -/
theorem Hold.moreN (h : Hold K B S O G H σ) (g : ExN H H') (ht : Tb K H') : Hold K B S O G H' σ := by
  have eq : ∀ a ∈ pof O G, H' a = H a := fun a ha => by
    obtain ⟨o, e, n⟩ := h.tracked ha
    rw [e, g a o e n]
  exact h.grow (hid_monoN fun a o _ e n => g a o e n) (fun a ha _ => eq a ha) (fun a _ ⟨x, y, z, e⟩ => ⟨x, y, z, g _ _ e nt_lst⟩) h.OnotS h.AnotS ht
theorem Hold.more (h : Hold K B S O G H σ) (g : Ex H H') : Hold K B S O G H' σ := h.moreN g.n (h.tb.ext g)
theorem Hold.subN (h : Hold K B S O G H σ) (p : Addr) (hp : p ∈ S) (g : ∀ a o, a ≠ p → H a = some o → NT o → H' a = some o) (hs : SrcAt H' p) (ht : Tb K H') : Hold K B S O G H' σ := by
  have hpP : p ∈ pof O G := by
    obtain ⟨i, hi⟩ := h.srcIn hp
    exact List.mem_append_right _ (mem_ads hi rfl)
  have eq : ∀ a ∈ pof O G, a ≠ p → H' a = H a := fun a ha n => by
    obtain ⟨o, e, nt⟩ := h.tracked ha
    rw [e, g a o n e nt]
  refine h.grow (hid_monoN fun a o n e nt => g a o (fun z => n (by rw [z]; exact hpP)) e nt) (fun a ha n => eq a ha fun z => n (by rw [z]; exact hp)) (fun a _ ⟨x, y, z, e⟩ => ?_) h.OnotS h.AnotS ht
  by_cases n : a = p
  · rw [n]; exact hs
  · exact ⟨x, y, z, g _ _ n e nt_lst⟩
theorem Hold.srcHere (h : Hold K B S O G H σ) {p : Addr} (hp : p ∈ S) : SrcAt H p := by
  obtain ⟨i, hi⟩ := h.srcIn hp
  obtain ⟨_, _, _, e⟩ := h.sl i _ hi
  exact e
theorem Hold.sub (h : Hold K B S O G H σ) (p : Addr) (hp : p ∈ S) (g : ∀ a o, a ≠ p → H a = some o → H' a = some o) (hs : SrcAt H' p) : Hold K B S O G H' σ := by
  obtain ⟨x, y, z, e⟩ := h.srcHere hp
  exact h.subN p hp (fun a o n e _ => g a o n e) hs (tabs_past h.tb (not_tbl e nt_lst) (not_cod e nc_lst) g)
/-- another base -/
theorem Hold.rebase (h : Hold K B S O G H σ) : Hold K (hid H (pof O G)) S O G H σ := ⟨h.len, h.sl, h.nd, h.ss, fun a o e _ _ => e, h.oo, h.on, h.tb⟩
theorem Hold.based {B' : Hp} (h : Hold K B' S O G H σ) (e : ∀ a o, B a = some o → NT o → a ∉ S → B' a = some o) : Hold K B S O G H σ := ⟨h.len, h.sl, h.nd, h.ss, fun a o e1 nt n => h.ex a o (e a o e1 nt n) nt n, h.oo, h.on, h.tb⟩
/-- what is known of the base is known -/
theorem Hold.know (h : Hold K B S O G H σ) {d : Dt} {v : V} (hd : Dn K (hid B S) d v) : Dn K (hid H (pof O G)) d v :=
  Dn.mono (fun a o e nt => by
    obtain ⟨h1, h2⟩ := hid_some e
    exact h.ex a o h2 nt h1) d hd
theorem Hold.notS {a : Addr} {o : HO} (h : Hold K B S O G H σ) (e : hid H (pof O G) a = some o) : a ∉ S := fun z => by
  obtain ⟨i, hi⟩ := h.srcIn z
  exact (hid_some e).1 (List.mem_append_right _ (mem_ads hi rfl))
/-- a slot that is not own takes data -/
theorem Hold.set (h : Hold K B S O G H σ) {i : Nat} {s : Sl} {d : Dt} {v : V} (hi : G[i]? = some s) (hs : s.ad = none) (hd : Dn K (hid H (pof O G)) d v) : Hold K B S O (G.set i (.da d)) H (σ.set i (some v)) := by
  have hlt : i < G.length := (List.getElem?_eq_some_iff.mp hi).1
  have fm : ∀ (f : Sl → Option Addr), f s = none → f (.da d) = none → (G.set i (.da d)).filterMap f = G.filterMap f := fun f h1 h2 => by
    have e1 : G = G.take i ++ s :: G.drop (i + 1) := by
      have : G[i] = s := by rw [List.getElem?_eq_getElem hlt] at hi; exact Option.some.inj hi
      rw [← this, ← List.drop_eq_getElem_cons hlt, List.take_append_drop]
    have e2 : G.set i (.da d) = G.take i ++ Sl.da d :: G.drop (i + 1) := List.set_eq_take_append_cons_drop .. |>.trans (if_pos hlt)
    rw [e2]
    conv => rhs; rw [e1]
    rw [List.filterMap_append, List.filterMap_append, List.filterMap_cons, List.filterMap_cons, h1, h2]
  have sd : s.sd = none := by
    cases s <;> first | rfl | cases hs
  have ea : ads (G.set i (.da d)) = ads G := fm _ hs rfl
  have ep : pof O (G.set i (.da d)) = pof O G := by unfold pof; rw [ea]
  refine ⟨by rw [List.length_set, List.length_set]; exact h.len, fun j t e => ?_, by rw [ep]; exact h.nd, (fm _ sd rfl).trans h.ss, by rw [ep]; exact h.ex, h.oo, h.on, h.tb⟩
  rw [ep]
  by_cases hj : j = i
  · subst hj
    rw [List.getElem?_set_self hlt] at e
    cases e
    exact ⟨some v, List.getElem?_set_self (by rw [h.len]; exact hlt), v, rfl, hd⟩
  · rw [List.getElem?_set_ne (Ne.symm hj)] at e
    obtain ⟨o, h1, h2⟩ := h.sl j t e
    exact ⟨o, by rw [List.getElem?_set_ne (Ne.symm hj)]; exact h1, h2⟩
end
end Sb

set_option Elab.async false
set_option linter.all false
set_option maxRecDepth 100000
set_option autoImplicit false
namespace Sb
open PySem PySem.Spec L2
variable {K : KX} {S : List Addr} {G : List Sl}

def Trk (P : List Addr) (H : Hp) : Prop := ∀ q ∈ P, ∃ o, H q = some o ∧ NT o
theorem Trk.out {P : List Addr} {H : Hp} (t : Trk P H) {p : Addr} (h : H p = none) : p ∉ P := fun z => by
  obtain ⟨o, e, _⟩ := t p z
  rw [h] at e
  cases e
theorem Trk.exN {P : List Addr} {H H' : Hp} (t : Trk P H) (e : ExN H H') : Trk P H' := fun q hq => by
  obtain ⟨o, h, n⟩ := t q hq
  exact ⟨o, e q o h n, n⟩
theorem Trk.ex {P : List Addr} {H H' : Hp} (t : Trk P H) (e : Ex H H') : Trk P H' := t.exN e.n
theorem Hold.trk {B : Hp} {O : Ow} {H : Hp} {σ : St} (h : Hold K B S O G H σ) : Trk (pof O G) H := fun q hq => h.tracked hq

/-- an expression, a test, arguments: they give data with this property, and leave the state as it is told -/
def Eg (K : KX) (S : List Addr) (G : List Sl) (te : TE) (post : Dt → Prop) : Prop := ∀ B O σ H, Hold K B S O G H σ → ∀ Q : VK,
  (∀ v H' d, post d → Hold K B S O G H' σ → Gr (pof O G) H H' → Dn K (hid H' (pof O G)) d v → Q v H') → te σ H Q
def Et (K : KX) (S : List Addr) (G : List Sl) (tt : TT) (post : Bool → Prop) : Prop := ∀ B O σ H, Hold K B S O G H σ → ∀ Q : Bool → Hp → Prop,
  (∀ b H', post b → Hold K B S O G H' σ → Gr (pof O G) H H' → Q b H') → tt σ H Q
def Ea (K : KX) (S : List Addr) (G : List Sl) (ta : TA) (post : List Dt → Prop) : Prop := ∀ B O σ H, Hold K B S O G H σ → ∀ Q : List V → Hp → Prop,
  (∀ vs H' ds, post ds → Hold K B S O G H' σ → Gr (pof O G) H H' → DnA K (hid H' (pof O G)) ds vs → Q vs H') → ta σ H Q
/-- one-place, two-place operations on values -/
def R1v (K : PySem.W.Frag) (r : V → Hp → VK → Prop) (x : Dt) (z : Dt → Prop) : Prop := ∀ P H v (Q : VK), Trk P H → Dn K (hid H P) x v → (∀ u H' d, z d → Ex H H' → Dn K (hid H' P) d u → Q u H') → r v H Q
def R2v (K : PySem.W.Frag) (r : R2) (x y : Dt) (z : Dt → Prop) : Prop := ∀ P H v w (Q : VK), Trk P H → Dn K (hid H P) x v → Dn K (hid H P) y w → (∀ u H' d, z d → Ex H H' → Dn K (hid H' P) d u → Q u H') → r v w H Q
def Rcv (K : PySem.W.Frag) (r : List V → Hp → VK → Prop) (xs : List Dt) (z : Dt → Prop) : Prop := ∀ P H vs (Q : VK), Trk P H → DnA K (hid H P) xs vs → (∀ u H' d, z d → Ex H H' → Dn K (hid H' P) d u → Q u H') → r vs H Q

section
variable {te ta tb tc : TE} {tt tu : TT} {tA tB : TA}
theorem eg_imp {p q : Dt → Prop} (h : Eg K S G te p) (i : ∀ d, p d → q d) : Eg K S G te q := fun B O σ H hh Q k => h B O σ H hh Q fun v H' d pd => k v H' d (i d pd)
theorem et_imp {p q : Bool → Prop} (h : Et K S G tt p) (i : ∀ d, p d → q d) : Et K S G tt q := fun B O σ H hh Q k => h B O σ H hh Q fun v H' pd => k v H' (i v pd)
theorem eg_var {i : Nat} {d : Dt} (h : G[i]? = some (.da d)) : Eg K S G (tVar i) (· = d) := fun B O σ H hh Q k => by
  obtain ⟨o, e, v, rfl, hd⟩ := hh.sl i _ h
  exact ⟨v, e, k v H d rfl hh (Gr.refl _ _) hd⟩
theorem eg_c {d : Dt} {v : V} (h : ∀ H, Dn K H d v) : Eg K S G (tC v) (· = d) := fun B O σ H hh Q k => k v H d rfl hh (Gr.refl _ _) (h _)
theorem eg_int {i : Int} : Eg K S G (tC (.int i)) (· = .int i) := eg_c fun _ => rfl
theorem eg_str {i : Str} : Eg K S G (tC (.str i)) (· = .str i) := eg_c fun _ => rfl
theorem eg_bl {i : Bool} : Eg K S G (tC (.bl i)) (· = .bl i) := eg_c fun _ => rfl
theorem eg_non : Eg K S G (tC .non) (· = .non) := eg_c fun _ => rfl
theorem eg_op {r : R2} {px py pz : Dt → Prop} (ha : Eg K S G ta px) (hb : Eg K S G tb py) (hr : ∀ x y, px x → py y → R2v K r x y pz) : Eg K S G (tOp r ta tb) pz := fun B O σ H hh Q k =>
  ha B O σ H hh _ fun v H1 x hx h1 g1 d1 => hb B O σ H1 h1 _ fun w H2 y hy h2 g2 d2 => hr x y hx hy _ H2 v w _ h2.trk (Dn.mono g2 x d1) d2 fun u H3 d hz e3 d3 =>
    k u H3 d hz (h2.more e3) ((g1.trans g2).trans (hid_mono fun a o _ e => e3 a o e)) d3
theorem eg_un {r : V → Hp → VK → Prop} {px pz : Dt → Prop} (ha : Eg K S G ta px) (hr : ∀ x, px x → R1v K r x pz) : Eg K S G (tUn r ta) pz := fun B O σ H hh Q k =>
  ha B O σ H hh _ fun v H1 x hx h1 g1 d1 => hr x hx _ H1 v _ h1.trk d1 fun u H3 d hz e3 d3 =>
    k u H3 d hz (h1.more e3) (g1.trans (hid_mono fun a o _ e => e3 a o e)) d3
theorem ea_nil : Ea K S G tNil (· = []) := fun B O σ H hh Q k => k [] H [] rfl hh (Gr.refl _ _) rfl
theorem ea_cons {px : Dt → Prop} {py pz : List Dt → Prop} (ha : Eg K S G te px) (hb : Ea K S G tA py) (h : ∀ x y, px x → py y → pz (x :: y)) : Ea K S G (tCons te tA) pz := fun B O σ H hh Q k =>
  ha B O σ H hh _ fun v H1 x hx h1 g1 d1 => hb B O σ H1 h1 _ fun w H2 y hy h2 g2 d2 => k (v :: w) H2 (x :: y) (h x y hx hy) h2 (g1.trans g2) ⟨v, w, rfl, Dn.mono g2 x d1, d2⟩
theorem eg_cb {r : List V → Hp → VK → Prop} {px : List Dt → Prop} {pz : Dt → Prop} (ha : Ea K S G tA px) (hr : ∀ x, px x → Rcv K r x pz) : Eg K S G (tCB r tA) pz := fun B O σ H hh Q k =>
  ha B O σ H hh _ fun v H1 x hx h1 g1 d1 => hr x hx _ H1 v _ h1.trk d1 fun u H3 d hz e3 d3 =>
    k u H3 d hz (h1.more e3) (g1.trans (hid_mono fun a o _ e => e3 a o e)) d3
theorem new_ex {H : Hp} {p : Addr} {o : HO} (h : H p = none) : Ex H (upd H p o) := fun a u e => by
  rw [upd_ne (ne_of_none e h)]
  exact e
theorem new_lst {P : List Addr} {H : Hp} {p : Addr} {ds : List Dt} {xs : List V} (t : Trk P H) (h : H p = none) (d : DnA K (hid H P) ds xs) : Dn K (hid (upd H p (.lst xs)) P) (.lst ds) (.ref p) :=
  ⟨p, xs, rfl, by rw [hid_out (t.out h)]; exact upd_same, DnA.mono (hid_new h) ds d⟩
theorem new_tup {P : List Addr} {H : Hp} {p : Addr} {ds : List Dt} {xs : List V} (t : Trk P H) (h : H p = none) (d : DnA K (hid H P) ds xs) : Dn K (hid (upd H p (.tup xs)) P) (.tup ds) (.ref p) :=
  ⟨p, xs, rfl, SqT.of (by rw [hid_out (t.out h)]; exact upd_same), DnA.mono (hid_new h) ds d⟩
theorem len_le {P : List Addr} {H : Hp} {ds : List Dt} {xs : List V} (d : DnA K (hid H P) ds xs) (h : ds.length ≤ 100000) : xs.length ≤ sizeLine := by
  rw [DnA.len d]
  exact Nat.le_trans h (by decide)
theorem eg_tup {px : List Dt → Prop} {pz : Dt → Prop} (ha : Ea K S G tA px) (h : ∀ ds, px ds → ds.length ≤ 100000 ∧ pz (.tup ds)) : Eg K S G (tTup tA) pz := fun B O σ H hh Q k =>
  ha B O σ H hh _ fun vs H1 ds hx h1 g1 d1 => ⟨len_le d1 (h ds hx).1, fun p hp => k _ _ _ (h ds hx).2 (h1.more (new_ex hp)) (g1.trans (hid_new hp)) (new_tup h1.trk hp d1)⟩
theorem eg_lst {px : List Dt → Prop} {pz : Dt → Prop} (ha : Ea K S G tA px) (h : ∀ ds, px ds → ds.length ≤ 100000 ∧ pz (.lst ds)) : Eg K S G (tLst tA) pz := fun B O σ H hh Q k =>
  ha B O σ H hh _ fun vs H1 ds hx h1 g1 d1 => ⟨len_le d1 (h ds hx).1, fun p hp => k _ _ _ (h ds hx).2 (h1.more (new_ex hp)) (g1.trans (hid_new hp)) (new_lst h1.trk hp d1)⟩
/-! tests -/
theorem et_tst {p : Bool → Prop} (h : Eg K S G te (fun d => ∃ b, d = .bl b ∧ p b)) : Et K S G (tTest te) p := fun B O σ H hh Q k =>
  h B O σ H hh _ fun v H' d hd h1 g1 d1 => by
    obtain ⟨b, rfl, hb⟩ := hd
    exact ⟨b, d1, k b H' hb h1 g1⟩
theorem et_tst1 {b : Bool} (h : Eg K S G te (· = .bl b)) : Et K S G (tTest te) (· = b) := et_tst (eg_imp h fun _ e => ⟨b, e, rfl⟩)
theorem et_B {p : Bool → Prop} (h : Eg K S G te (fun d => ∃ b, d = .bl b ∧ p b)) : Et K S G (L2.tB te) p := fun B O σ H hh Q k =>
  h B O σ H hh _ fun v H' d hd h1 g1 d1 => by
    obtain ⟨b, rfl, hb⟩ := hd
    exact ⟨b, d1, k b H' hb h1 g1⟩
theorem et_B1 {b : Bool} (h : Eg K S G te (· = .bl b)) : Et K S G (L2.tB te) (· = b) := et_B (eg_imp h fun _ e => ⟨b, e, rfl⟩)
theorem et_not {p : Bool → Prop} (h : Et K S G tt (fun b => p (!b))) : Et K S G (tNot tt) p := fun B O σ H hh Q k => h B O σ H hh _ fun b H' hb h1 g1 => k (!b) H' hb h1 g1
theorem et_and {p q r : Bool → Prop} (h1 : Et K S G tt p) (h2 : p true → Et K S G tu q) (hf : p false → r false) (ht : p true → ∀ b, q b → r b) : Et K S G (tAnd tt tu) r := fun B O σ H hh Q k =>
  h1 B O σ H hh _ fun b H1 hb h1 g1 => by
    cases b with
    | false => exact iteF (k false H1 (hf hb) h1 g1)
    | true => exact iteT (h2 hb B O σ H1 h1 _ fun c H2 hc h2 g2 => k c H2 (ht hb c hc) h2 (g1.trans g2))
theorem et_or {p q r : Bool → Prop} (h1 : Et K S G tt p) (h2 : p false → Et K S G tu q) (ht : p true → r true) (hf : p false → ∀ b, q b → r b) : Et K S G (tOr tt tu) r := fun B O σ H hh Q k =>
  h1 B O σ H hh _ fun b H1 hb h1 g1 => by
    cases b with
    | true => exact iteT (k true H1 (ht hb) h1 g1)
    | false => exact iteF (h2 hb B O σ H1 h1 _ fun c H2 hc h2 g2 => k c H2 (hf hb c hc) h2 (g1.trans g2))
/-- known answers -/
theorem et_and1 {a b : Bool} (h1 : Et K S G tt (· = a)) (h2 : a = true → Et K S G tu (· = b)) : Et K S G (tAnd tt tu) (· = (a && b)) :=
  et_and (q := (· = b)) h1 (fun e => h2 e.symm) (fun e => by rw [← e]; rfl) (fun e c hc => by rw [← e, hc]; rfl)
theorem et_or1 {a b : Bool} (h1 : Et K S G tt (· = a)) (h2 : a = false → Et K S G tu (· = b)) : Et K S G (tOr tt tu) (· = (a || b)) :=
  et_or (q := (· = b)) h1 (fun e => h2 e.symm) (fun e => by rw [← e]; rfl) (fun e c hc => by rw [← e, hc]; rfl)
theorem et_not1 {a : Bool} (h : Et K S G tt (· = a)) : Et K S G (tNot tt) (· = !a) := et_not (et_imp h fun b e => by rw [e])
theorem eg_andV {a b : Bool} (h1 : Eg K S G ta (· = .bl a)) (h2 : a = true → Eg K S G tb (· = .bl b)) : Eg K S G (tAndV ta tb) (· = .bl (a && b)) := fun B O σ H hh Q k =>
  h1 B O σ H hh _ fun v H1 d hd hh1 g1 d1 => by
    subst hd
    refine ⟨a, d1, ?_⟩
    cases a with
    | false => exact iteF (k _ H1 _ rfl hh1 g1 rfl)
    | true => exact iteT (h2 rfl B O σ H1 hh1 _ fun w H2 d hd h2 g2 d2 => k w H2 d hd h2 (g1.trans g2) d2)
theorem eg_orV {a b : Bool} (h1 : Eg K S G ta (· = .bl a)) (h2 : a = false → Eg K S G tb (· = .bl b)) : Eg K S G (tOrV ta tb) (· = .bl (a || b)) := fun B O σ H hh Q k =>
  h1 B O σ H hh _ fun v H1 d hd hh1 g1 d1 => by
    subst hd
    refine ⟨a, d1, ?_⟩
    cases a with
    | true => exact iteT (k _ H1 _ rfl hh1 g1 rfl)
    | false => exact iteF (h2 rfl B O σ H1 hh1 _ fun w H2 d hd h2 g2 d2 => k w H2 d hd h2 (g1.trans g2) d2)
theorem eg_notV {a : Bool} (h1 : Eg K S G ta (· = .bl a)) : Eg K S G (tNotV ta) (· = .bl (!a)) := fun B O σ H hh Q k =>
  h1 B O σ H hh _ fun v H1 d hd h1 g1 d1 => by
    subst hd
    exact ⟨a, d1, k _ H1 _ rfl h1 g1 rfl⟩
theorem eg_if {p : Bool → Prop} {q : Dt → Prop} (h : Et K S G tt p) (h1 : p true → Eg K S G ta q) (h2 : p false → Eg K S G tb q) : Eg K S G (tIf tt ta tb) q := fun B O σ H hh Q k =>
  h B O σ H hh _ fun b H1 hb hh1 g1 => by
    cases b with
    | true => exact iteT (h1 hb B O σ H1 hh1 _ fun w H2 d hd h2 g2 d2 => k w H2 d hd h2 (g1.trans g2) d2)
    | false => exact iteF (h2 hb B O σ H1 hh1 _ fun w H2 d hd h2 g2 d2 => k w H2 d hd h2 (g1.trans g2) d2)
end

/-! ### what values do -/
section
theorem rv_out {K : PySem.W.Frag} {H : Hp} {P : List Addr} {z : Dt} {v : V} {Q : VK} {pz : Dt → Prop} (k : ∀ u H' d, pz d → Ex H H' → Dn K (hid H' P) d u → Q u H') (h : pz z) (d : Dn K (hid H P) z v) : Q v H := k v H z h (Ex.refl H) d
theorem r2_I0 {g : Int → Int → V} {z : Int → Int → Dt} {i j : Int} {pz : Dt → Prop} (hg : ∀ H, Dn K H (z i j) (g i j)) (h : pz (z i j)) : R2v K (rI0 g) (.int i) (.int j) pz := fun P H v w Q _ d1 d2 k =>
  ⟨i, j, d1, d2, rv_out k h (hg _)⟩
theorem r2_I {C : Int → Int → Prop} {g : Int → Int → V} {z : Int → Int → Dt} {i j : Int} {pz : Dt → Prop} (hc : C i j) (hg : ∀ H, Dn K H (z i j) (g i j)) (h : pz (z i j)) : R2v K (rI C g) (.int i) (.int j) pz := fun P H v w Q _ d1 d2 k =>
  ⟨i, j, d1, d2, hc, rv_out k h (hg _)⟩
theorem dn_scal {H : Hp} : ∀ {d : Dt} {v : V}, Dn K H d v → (∀ a, v ≠ .ref a) → (∀ H', Dn K H' d v)
  | .non, _, h, _ => fun _ => h
  | .bl _, _, h, _ => fun _ => h
  | .int _, _, h, _ => fun _ => h
  | .str _, _, h, _ => fun _ => h
  | .lst _, _, h, n => by obtain ⟨a, _, e, _⟩ := h; exact absurd e (n a)
  | .tup _, _, h, n => by obtain ⟨a, _, e, _⟩ := h; exact absurd e (n a)
  | .dic _, _, h, n => by obtain ⟨a, _, e, _⟩ := h; exact absurd e (n a)
  | .dii _, _, h, n => by obtain ⟨a, e, _⟩ := h; exact absurd e (n a)
  | .obj _ _, _, h, n => by obtain ⟨a, _, _, e, _⟩ := h; exact absurd e (n a)
/-- scalars -/
def Dt.v? : Dt → Option V
  | .non => some .non
  | .bl b => some (.bl b)
  | .int i => some (.int i)
  | .str x => some (.str x)
  | _ => none
theorem dn_v {H : Hp} {d : Dt} {v u : V} (h : Dn K H d v) (e : d.v? = some u) : v = u := by
  cases d <;> cases e <;> exact h
theorem r2_eq {x y : Dt} {u w : V} {pz : Dt → Prop} (hx : x.v? = some u) (hy : y.v? = some w) (hs : scal u w = true) (h : pz (.bl (decide (u = w)))) : R2v K rEq x y pz := fun P H v v' Q _ d1 d2 k => by
  have e1 := dn_v d1 hx
  have e2 := dn_v d2 hy
  subst e1 e2
  exact ⟨hs, rv_out k h rfl⟩
theorem r2_ne {x y : Dt} {u w : V} {pz : Dt → Prop} (hx : x.v? = some u) (hy : y.v? = some w) (hs : scal u w = true) (h : pz (.bl (!decide (u = w)))) : R2v K rNe x y pz := fun P H v v' Q _ d1 d2 k => by
  have e1 := dn_v d1 hx
  have e2 := dn_v d2 hy
  subst e1 e2
  exact ⟨hs, rv_out k h rfl⟩
def Dt.isN : Dt → Bool
  | .non => true
  | _ => false
theorem dn_isN {H : Hp} {d : Dt} {v : V} (h : Dn K H d v) : decide (v = .non) = d.isN := by
  cases d with
  | non => cases (show v = .non from h); rfl
  | bl b => cases (show v = _ from h); rfl
  | int b => cases (show v = _ from h); rfl
  | str b => cases (show v = _ from h); rfl
  | lst b => obtain ⟨a, xs, rfl, _⟩ := h; rfl
  | tup b => obtain ⟨a, xs, rfl, _⟩ := h; rfl
  | dic b => obtain ⟨a, xs, rfl, _⟩ := h; rfl
  | dii b => obtain ⟨a, rfl, _⟩ := h; rfl
  | obj c b => obtain ⟨a, xs, _, rfl, _⟩ := h; rfl
theorem r2_isN {x : Dt} {pz : Dt → Prop} (h : pz (.bl x.isN)) : R2v K rIsN x .non pz := fun P H v w Q _ d1 d2 k => ⟨d2, by rw [dn_isN d1]; exact rv_out k h rfl⟩
theorem r2_notN {x : Dt} {pz : Dt → Prop} (h : pz (.bl (!x.isN))) : R2v K rNotN x .non pz := fun P H v w Q _ d1 d2 k => ⟨d2, by rw [dn_isN d1]; exact rv_out k h rfl⟩
/-- one of several (scalars) -/
theorem dnA_v {H : Hp} : ∀ {ds : List Dt} {vs us : List V}, DnA K H ds vs → ds.map Dt.v? = us.map some → vs = us
  | [], _, us, h, e => by
    cases (show _ = [] from h)
    cases us with
    | nil => rfl
    | cons _ _ => cases e
  | d :: ds, _, us, h, e => by
    obtain ⟨v, r, rfl, h1, h2⟩ := h
    cases us with
    | nil => cases e
    | cons u us =>
      rw [List.map_cons, List.map_cons] at e
      injection e with e1 e2
      rw [dn_v h1 e1, dnA_v h2 e2]
theorem r2_in {neg : Bool} {x : Dt} {ds : List Dt} {u : V} {us : List V} {pz : Dt → Prop} (tup : Bool) (hx : x.v? = some u) (hy : ds.map Dt.v? = us.map some) (fx : flatV u = true) (fy : us.all flatV = true) (h : pz (.bl (if neg then !inV u us else inV u us))) :
    R2v K (rIn K neg) x (if tup then .tup ds else .lst ds) pz := fun P H v w Q _ d1 d2 k => by
  have e1 := dn_v d1 hx
  subst e1
  cases tup with
  | true =>
    obtain ⟨a, xs, rfl, h1, h2⟩ := d2
    have e2 := dnA_v h2 hy
    subst e2
    exact ⟨a, xs, rfl, .inr ((hid_ex P).sqT h1), fx, fy, rv_out k h rfl⟩
  | false =>
    obtain ⟨a, xs, rfl, h1, h2⟩ := d2
    have e2 := dnA_v h2 hy
    subst e2
    exact ⟨a, xs, rfl, .inl (SqL.of (hid_ex P _ _ h1)), fx, fy, rv_out k h rfl⟩
theorem atI_dn {H : Hp} {ds : List Dt} {vs : List V} {i : Int} {d : Dt} (h : DnA K H ds vs) (e : atI ds i = some d) : ∃ v, atI vs i = some v ∧ Dn K H d v := by
  unfold atI at e ⊢
  rw [DnA.len h]
  cases hx : ixN ds.length i with
  | none => rw [hx] at e; cases e
  | some j =>
    rw [hx] at e
    exact DnA.get h e
theorem r2_ixL {ds : List Dt} {i : Int} {d : Dt} {pz : Dt → Prop} (e : atI ds i = some d) (h : pz d) : R2v K (rIxL K) (.lst ds) (.int i) pz := fun P H v w Q _ d1 d2 k => by
  obtain ⟨a, xs, rfl, h1, h2⟩ := d1
  obtain ⟨v, e1, e2⟩ := atI_dn h2 e
  exact ⟨a, xs, i, v, rfl, d2, SqL.of (hid_ex P _ _ h1), e1, rv_out k h e2⟩
theorem r2_ixT {ds : List Dt} {i : Int} {d : Dt} {pz : Dt → Prop} (e : atI ds i = some d) (h : pz d) : R2v K (rIxT K) (.tup ds) (.int i) pz := fun P H v w Q _ d1 d2 k => by
  obtain ⟨a, xs, rfl, h1, h2⟩ := d1
  obtain ⟨v, e1, e2⟩ := atI_dn h2 e
  exact ⟨a, xs, i, v, rfl, d2, (hid_ex P).sqT h1, e1, rv_out k h e2⟩
theorem r2_ixS {z : Str} {i : Int} {c : Nat} {pz : Dt → Prop} (hz : z.length ≤ 100000) (e : atI z.cps.toList i = some c) (h : pz (.str ⟨#[c]⟩)) : R2v K rIxS (.str z) (.int i) pz := fun P H v w Q _ d1 d2 k =>
  ⟨z, i, c, d1, d2, Nat.le_trans hz (by decide), e, rv_out k h rfl⟩
end
end Sb

set_option Elab.async false
set_option linter.all false
set_option maxRecDepth 100000
set_option autoImplicit false
namespace Sb
open PySem PySem.Spec L2
variable {K : KX} {S : List Addr} {G : List Sl}

def op (O : Ow) : List Addr := O.map (·.1)
structure Fin (K : KX) (B : Hp) (S : List Addr) (O : Ow) (H : Hp) : Prop where
  ex : ∀ a o, B a = some o → NT o → a ∉ S → hid H (op O ++ S) a = some o
  oo : ∀ q ∈ O, H q.1 = some q.2
  on : ∀ q ∈ O, NT q.2
  tb : Tb K H
  sr : ∀ p ∈ S, SrcAt H p
theorem Hold.subP {B : Hp} {O : Ow} {H : Hp} {σ : St} (h : Hold K B S O G H σ) : ∀ a ∈ op O ++ S, a ∈ pof O G := fun a ha => by
  rcases List.mem_append.mp ha with z | z
  · exact List.mem_append_left _ z
  · obtain ⟨i, hi⟩ := h.srcIn z
    exact List.mem_append_right _ (mem_ads hi rfl)
theorem Hold.srcAt {B : Hp} {O : Ow} {H : Hp} {σ : St} (h : Hold K B S O G H σ) : ∀ p ∈ S, SrcAt H p := fun p hp => by
  obtain ⟨i, hi⟩ := h.srcIn hp
  obtain ⟨_, _, _, e⟩ := h.sl i _ hi
  exact e
theorem Hold.fin {B : Hp} {O : Ow} {H : Hp} {σ : St} (h : Hold K B S O G H σ) : Fin K B S O H :=
  ⟨fun a o e nt n => hid_sub h.subP a o (h.ex a o e nt n) nt, h.oo, h.on, h.tb, h.srcAt⟩
/-- a statement: from G to one of N, or back with data of R, or broken off in one of Bk -/
def Run (K : KX) (S : List Addr) (ts : TS) (G : List Sl) (N : List Sl → Prop) (R : Dt → Prop) (Bk : List Sl → Prop) : Prop := ∀ B O (D : Ends) σ H, Hold K B S O G H σ →
  (∀ G' σ' H', N G' → Hold K B S O G' H' σ' → D.nx σ' H') → (∀ v d H', R d → Fin K B S O H' → Dn K (hid H' (op O ++ S)) d v → D.rt v H') → (∀ G' σ' H', Bk G' → Hold K B S O G' H' σ' → D.bk σ' H') → ts D σ H
section
variable {te : TE} {tt : TT} {t1 t2 ts : TS} {N N1 Bk : List Sl → Prop} {R : Dt → Prop}
theorem run_imp {N' Bk' : List Sl → Prop} {R' : Dt → Prop} (h : Run K S ts G N R Bk) (h1 : ∀ g, N g → N' g) (h2 : ∀ d, R d → R' d) (h3 : ∀ g, Bk g → Bk' g) : Run K S ts G N' R' Bk' := fun B O D σ H hh a b c =>
  h B O D σ H hh (fun G' σ' H' n => a G' σ' H' (h1 _ n)) (fun v d H' r => b v d H' (h2 _ r)) fun G' σ' H' n => c G' σ' H' (h3 _ n)
theorem run_seq (h1 : Run K S t1 G N1 R Bk) (h2 : ∀ G1, N1 G1 → Run K S t2 G1 N R Bk) : Run K S (tSeq t1 t2) G N R Bk := fun B O D σ H hh a b c =>
  h1 B O { D with nx := t2 D } σ H hh (fun G' σ' H' n h' => h2 G' n B O D σ' H' h' a b c) b c
theorem run_next (h : N G) : Run K S tNext G N R Bk := fun B O D σ H hh a b c => a G σ H h hh
theorem run_brk (h : Bk G) : Run K S tBreak G N R Bk := fun B O D σ H hh a b c => c G σ H h hh
theorem run_if {p : Bool → Prop} (h : Et K S G tt p) (h1 : p true → Run K S t1 G N R Bk) (h2 : p false → Run K S t2 G N R Bk) : Run K S (tIfS tt t1 t2) G N R Bk := fun B O D σ H hh a b c =>
  h B O σ H hh _ fun k H1 hk hh1 g1 => by
    cases k with
    | true => exact iteT (h1 hk B O D σ H1 hh1 a b c)
    | false => exact iteF (h2 hk B O D σ H1 hh1 a b c)
theorem run_ret (h : Eg K S G te R) : Run K S (tRet te) G N R Bk := fun B O D σ H hh a b c =>
  h B O σ H hh _ fun v H1 d hd hh1 g1 d1 => b v d H1 hd hh1.fin (Dn.mono (hid_sub hh1.subP) d d1)
theorem run_retN (h : R .non) : Run K S tRetN G N R Bk := fun B O D σ H hh a b c => b .non .non H h hh.fin rfl
theorem run_drop {p : Dt → Prop} (h : Eg K S G te p) (hn : N G) : Run K S (tDrop te) G N R Bk := fun B O D σ H hh a b c =>
  h B O σ H hh _ fun v H1 d hd hh1 g1 d1 => a G σ H1 hn hh1
/-- a target takes a value; W: the slots that it writes -/
def Gg (K : KX) (S : List Addr) (G : List Sl) (g : TG) (d : Dt) (W : List Nat) (G' : List Sl) : Prop := ∀ B O σ H v, Hold K B S O G H σ → Dn K (hid H (pof O G)) d v → ∀ Q : St → Hp → Prop,
  (∀ σ', Hold K B S O G' H σ' → pof O G' = pof O G → wipe σ' W = wipe σ W → Q σ' H) → g v σ H Q
theorem wipe_get {σ : St} {j : Nat} : ∀ W : List Nat, (wipe σ W)[j]? = if j ∈ W then (σ[j]?).map (fun _ => none) else σ[j]?
  | [] => by simp [wipe]
  | v :: vs => by
    have ih := wipe_get (σ := σ) (j := j) vs
    unfold wipe
    rw [List.getElem?_set, wipe_length]
    by_cases e : v = j
    · subst e
      by_cases l : v < σ.length
      · simp [l]
      · simp [l]
    · have e' : ¬ j = v := fun z => e z.symm
      simp only [e, if_false, List.mem_cons, e', false_or]
      exact ih
theorem wipe_set {σ : St} {i : Nat} {v : Option V} {W : List Nat} (h : i ∈ W) : wipe (σ.set i v) W = wipe σ W := by
  apply List.ext_getElem?
  intro j
  rw [wipe_get, wipe_get, List.getElem?_set]
  by_cases e : i = j
  · subst e
    by_cases l : i < σ.length
    · simp [l, h]
    · simp [l]
  · simp [e]
theorem pof_set {O : Ow} {i : Nat} {s : Sl} {d : Dt} (hi : G[i]? = some s) (hs : s.ad = none) : pof O (G.set i (.da d)) = pof O G := by
  have hlt : i < G.length := (List.getElem?_eq_some_iff.mp hi).1
  unfold pof ads
  have e1 : G = G.take i ++ s :: G.drop (i + 1) := by
    have : G[i] = s := by rw [List.getElem?_eq_getElem hlt] at hi; exact Option.some.inj hi
    rw [← this, ← List.drop_eq_getElem_cons hlt, List.take_append_drop]
  have e2 : G.set i (.da d) = G.take i ++ Sl.da d :: G.drop (i + 1) := List.set_eq_take_append_cons_drop .. |>.trans (if_pos hlt)
  rw [e2]
  conv => rhs; rw [e1]
  rw [List.filterMap_append, List.filterMap_append, List.filterMap_cons, List.filterMap_cons, hs]
  rfl
theorem gg_name {i : Nat} {s : Sl} {d : Dt} {W : List Nat} (hi : G[i]? = some s) (hs : s.ad = none) (hW : i ∈ W) : Gg K S G (gName i) d W (G.set i (.da d)) := fun B O σ H v hh hd Q k =>
  k _ (hh.set hi hs hd) (pof_set hi hs) (wipe_set hW)
theorem gg_two {i j : Nat} {s t : Sl} {d e : Dt} {W : List Nat} (hi : G[i]? = some s) (hs : s.ad = none) (hj : G[j]? = some t) (ht : t.ad = none) (hij : i ≠ j) (hW : i ∈ W) (hW2 : j ∈ W) :
    Gg K S G (gTup K 2 (gCons (gName i) (gCons (gName j) gNil))) (.tup [d, e]) W ((G.set i (.da d)).set j (.da e)) := fun B O σ H v hh hd Q k => by
  obtain ⟨a, xs, rfl, h1, v1, r1, rfl, d1, v2, r2, rfl, d2, e3⟩ := hd
  subst e3
  have h2 := hh.set hi hs d1
  have ep : pof O (G.set i (.da d)) = pof O G := pof_set hi hs
  have hj2 : (G.set i (.da d))[j]? = some t := by rw [List.getElem?_set_ne hij]; exact hj
  have h3 := h2.set (d := e) (v := v2) hj2 ht (by rw [ep]; exact d2)
  refine ⟨a, [v1, v2], rfl, (hid_ex _).sqT h1, rfl, v1, [v2], rfl, v2, [], rfl, rfl, ?_⟩
  exact k _ h3 ((pof_set hj2 ht).trans ep) ((wipe_set hW2).trans (wipe_set hW))
theorem gg_three {i j l : Nat} {s t u : Sl} {d e f : Dt} {W : List Nat} (hi : G[i]? = some s) (hs : s.ad = none) (hj : G[j]? = some t) (ht : t.ad = none) (hl : G[l]? = some u) (hu : u.ad = none) (hij : i ≠ j) (hil : i ≠ l) (hjl : j ≠ l) (hW : i ∈ W) (hW2 : j ∈ W) (hW3 : l ∈ W) :
    Gg K S G (gTup K 3 (gCons (gName i) (gCons (gName j) (gCons (gName l) gNil)))) (.tup [d, e, f]) W (((G.set i (.da d)).set j (.da e)).set l (.da f)) := fun B O σ H v hh hd Q k => by
  obtain ⟨a, xs, rfl, h1, v1, r1, rfl, d1, v2, r2, rfl, d2, v3, r3, rfl, d3, e3⟩ := hd
  subst e3
  have h2 := hh.set hi hs d1
  have ep : pof O (G.set i (.da d)) = pof O G := pof_set hi hs
  have hj2 : (G.set i (.da d))[j]? = some t := by rw [List.getElem?_set_ne hij]; exact hj
  have h3 := h2.set (d := e) (v := v2) hj2 ht (by rw [ep]; exact d2)
  have ep2 := (pof_set (O := O) (d := e) hj2 ht).trans ep
  have hl2 : ((G.set i (.da d)).set j (.da e))[l]? = some u := by rw [List.getElem?_set_ne hjl, List.getElem?_set_ne hil]; exact hl
  have h4 := h3.set (d := f) (v := v3) hl2 hu (by rw [ep2]; exact d3)
  refine ⟨a, [v1, v2, v3], rfl, (hid_ex _).sqT h1, rfl, v1, [v2, v3], rfl, v2, [v3], rfl, v3, [], rfl, rfl, ?_⟩
  exact k _ h4 ((pof_set hl2 hu).trans ep2) (((wipe_set hW3).trans (wipe_set hW2)).trans (wipe_set hW))
theorem run_asg {g : TG} {p : Dt → Prop} (W : List Nat) (h : Eg K S G te p) (hn : ∀ d, p d → ∃ G', Gg K S G g d W G' ∧ N G') : Run K S (tAsg te g) G N R Bk := fun B O D σ H hh a b c =>
  h B O σ H hh _ fun v H1 d hd hh1 g1 d1 => by
    obtain ⟨G', hg, n⟩ := hn d hd
    exact hg B O σ H1 v hh1 d1 _ fun σ' h' _ _ => a G' σ' H1 n h'
theorem run_set {i : Nat} {s : Sl} {p : Dt → Prop} (h : Eg K S G te p) (hi : G[i]? = some s) (hs : s.ad = none) (hn : ∀ d, p d → N (G.set i (.da d))) : Run K S (tAsg te (gName i)) G N R Bk :=
  run_asg [i] h fun d hd => ⟨_, gg_name hi hs (by simp), hn d hd⟩
end
/-! ### own lists -/
section
variable {B : Hp} {O : Ow} {H H' : Hp} {σ : St}
theorem split_at {i : Nat} {s s' : Sl} (hi : G[i]? = some s) : G = G.take i ++ s :: G.drop (i + 1) ∧ G.set i s' = G.take i ++ s' :: G.drop (i + 1) := by
  have hlt : i < G.length := (List.getElem?_eq_some_iff.mp hi).1
  constructor
  · have : G[i] = s := by rw [List.getElem?_eq_getElem hlt] at hi; exact Option.some.inj hi
    rw [← this, ← List.drop_eq_getElem_cons hlt, List.take_append_drop]
  · exact List.set_eq_take_append_cons_drop .. |>.trans (if_pos hlt)
theorem Hold.own (h : Hold K B S O G H σ) {i : Nat} {s : Sl} {p : Addr} (hi : G[i]? = some s) (hs : s.ad = none) (hp : H p = none) : Hold K B S O (G.set i (.ow p [])) (upd H p (.lst [])) (σ.set i (some (.ref p))) := by
  have hlt : i < G.length := (List.getElem?_eq_some_iff.mp hi).1
  obtain ⟨e1, e2⟩ := split_at (s' := .ow p []) hi
  have hf : p ∉ pof O G := h.fresh hp
  have eA : ads G = ads (G.take i) ++ ads (G.drop (i + 1)) := by
    conv => lhs; rw [e1]
    unfold ads
    rw [List.filterMap_append, List.filterMap_cons, hs]
  have eB : ads (G.set i (.ow p [])) = ads (G.take i) ++ p :: ads (G.drop (i + 1)) := by
    rw [e2]
    unfold ads
    rw [List.filterMap_append, List.filterMap_cons]
    rfl
  have mem : ∀ a, a ∈ pof O (G.set i (.ow p [])) ↔ a = p ∨ a ∈ pof O G := fun a => by
    unfold pof
    rw [eA, eB]
    simp only [List.mem_append, List.mem_cons]
    constructor
    · rintro (z | z | z | z) <;> simp [z]
    · rintro (z | z | z | z) <;> simp [z]
  have gr : ExN (hid H (pof O G)) (hid (upd H p (.lst [])) (pof O (G.set i (.ow p [])))) := fun a o e _ => by
    obtain ⟨n, e'⟩ := hid_some e
    have np : a ≠ p := ne_of_none e' hp
    rw [hid_out (fun z => ((mem a).mp z).elim np n), upd_ne np]
    exact e'
  have up : ∀ a o, H a = some o → upd H p (.lst []) a = some o := fun a o e => by rw [upd_ne (ne_of_none e hp)]; exact e
  refine ⟨by rw [List.length_set, List.length_set]; exact h.len, fun j t e => ?_, ?_, ?_, fun a o e nt n => gr a o (h.ex a o e nt n) nt, fun q hq => up _ _ (h.oo q hq), h.on, h.tb.ext (new_ex hp)⟩
  · by_cases hj : j = i
    · subst hj
      rw [List.getElem?_set_self hlt] at e
      cases e
      exact ⟨some (.ref p), List.getElem?_set_self (by rw [h.len]; exact hlt), rfl, [], upd_same, rfl⟩
    · rw [List.getElem?_set_ne (Ne.symm hj)] at e
      obtain ⟨o, h1, h2⟩ := h.sl j t e
      refine ⟨o, by rw [List.getElem?_set_ne (Ne.symm hj)]; exact h1, ?_⟩
      cases t with
      | un => trivial
      | rf q => exact h2
      | da d =>
        obtain ⟨v, x1, x2⟩ := h2
        exact ⟨v, x1, Dn.mono gr d x2⟩
      | ow q ds =>
        obtain ⟨x1, xs, x2, x3⟩ := h2
        exact ⟨x1, xs, up _ _ x2, DnA.mono gr ds x3⟩
      | od q ds =>
        obtain ⟨x1, xs, x2, x3⟩ := h2
        exact ⟨x1, xs, up _ _ x2, DnK.mono gr ds x3⟩
      | oi q ds => exact ⟨h2.1, up _ _ h2.2⟩
      | sr q =>
        obtain ⟨x1, x, y, z, x2⟩ := h2
        exact ⟨x1, x, y, z, up _ _ x2⟩
  · have n0 := h.nd
    unfold pof at n0 hf ⊢
    rw [eA] at n0 hf
    rw [eB]
    rw [← List.append_assoc] at n0 hf ⊢
    have q := (List.perm_middle (l₁ := op O ++ ads (G.take i)) (l₂ := ads (G.drop (i + 1))) (a := p))
    exact q.nodup_iff.mpr (List.nodup_cons.mpr ⟨hf, n0⟩)
  · rw [← h.ss, e2]
    conv => rhs; rw [e1]
    have sd : s.sd = none := by cases s <;> first | rfl | cases hs
    unfold srs
    rw [List.filterMap_append, List.filterMap_append, List.filterMap_cons, List.filterMap_cons, sd]
    rfl
theorem Hold.app (h : Hold K B S O G H σ) {i : Nat} {p : Addr} {ds : List Dt} {d : Dt} {v : V} {xs : List V} (hi : G[i]? = some (.ow p ds)) (hx : H p = some (.lst xs)) (hd : Dn K (hid H (pof O G)) d v) : Hold K B S O (G.set i (.ow p (ds ++ [d]))) (upd H p (.lst (xs ++ [v]))) σ := by
  have hlt : i < G.length := (List.getElem?_eq_some_iff.mp hi).1
  obtain ⟨e1, e2⟩ := split_at (s' := .ow p (ds ++ [d])) hi
  have eB : ads (G.set i (.ow p (ds ++ [d]))) = ads G := by
    rw [e2]
    conv => rhs; rw [e1]
    unfold ads
    rw [List.filterMap_append, List.filterMap_append, List.filterMap_cons, List.filterMap_cons]
    rfl
  have ep : pof O (G.set i (.ow p (ds ++ [d]))) = pof O G := by unfold pof; rw [eB]
  have hpP : p ∈ pof O G := List.mem_append_right _ (mem_ads hi rfl)
  have hpO : ∀ q ∈ O, q.1 ≠ p := fun q hq z => (List.nodup_append.mp h.nd).2.2 q.1 (List.mem_map_of_mem hq) p (mem_ads hi rfl) z
  have gr : ExN (hid H (pof O G)) (hid (upd H p (.lst (xs ++ [v]))) (pof O G)) := hid_up hpP
  refine ⟨by rw [List.length_set]; exact h.len, fun j t e => ?_, by rw [ep]; exact h.nd, ?_, by rw [ep]; exact fun a o e nt n => gr a o (h.ex a o e nt n) nt, fun q hq => by rw [upd_ne (hpO q hq)]; exact h.oo q hq, h.on, tabs_past h.tb (not_tbl hx nt_lst) (not_cod hx nc_lst) fun a o n e => by rw [upd_ne n]; exact e⟩
  · rw [ep]
    by_cases hj : j = i
    · subst hj
      rw [List.getElem?_set_self hlt] at e
      cases e
      obtain ⟨o, h1, h2, ys, h3, h4⟩ := h.sl j _ hi
      rw [hx] at h3
      cases h3
      exact ⟨o, h1, h2, xs ++ [v], upd_same, DnA.app (DnA.mono gr ds h4) (DnA.one (Dn.mono gr d hd))⟩
    · rw [List.getElem?_set_ne (Ne.symm hj)] at e
      obtain ⟨o, h1, h2⟩ := h.sl j t e
      have ne : ∀ q, t.ad = some q → q ≠ p := fun q hq z => hj (nodup_ads h.ndA e hi (by rw [hq, z]) rfl)
      refine ⟨o, h1, ?_⟩
      cases t with
      | un => trivial
      | rf q => exact h2
      | da d =>
        obtain ⟨v, x1, x2⟩ := h2
        exact ⟨v, x1, Dn.mono gr d x2⟩
      | ow q ds =>
        obtain ⟨x1, xs, x2, x3⟩ := h2
        exact ⟨x1, xs, by rw [upd_ne (ne q rfl)]; exact x2, DnA.mono gr ds x3⟩
      | od q ds =>
        obtain ⟨x1, xs, x2, x3⟩ := h2
        exact ⟨x1, xs, by rw [upd_ne (ne q rfl)]; exact x2, DnK.mono gr ds x3⟩
      | oi q ds => exact ⟨h2.1, by rw [upd_ne (ne q rfl)]; exact h2.2⟩
      | sr q =>
        obtain ⟨x1, x, y, z, x2⟩ := h2
        exact ⟨x1, x, y, z, by rw [upd_ne (ne q rfl)]; exact x2⟩
  · rw [← h.ss, e2]
    conv => rhs; rw [e1]
    unfold srs
    rw [List.filterMap_append, List.filterMap_append, List.filterMap_cons, List.filterMap_cons]
    rfl
end
section
variable {te : TE} {N Bk : List Sl → Prop} {R : Dt → Prop}
theorem run_own {i : Nat} {s : Sl} (hi : G[i]? = some s) (hs : s.ad = none) (hn : ∀ p, N (G.set i (.ow p []))) : Run K S (tAsg (tLst tNil) (gName i)) G N R Bk := fun B O D σ H hh a b c =>
  ⟨Nat.zero_le _, fun p hp => a _ _ _ (hn p) (hh.own hi hs hp)⟩
theorem run_app {i : Nat} {p : Addr} {ds : List Dt} {q : Dt → Prop} (hi : G[i]? = some (.ow p ds)) (h : Eg K S G te q) (hl : ds.length < 100000) (hn : ∀ d, q d → N (G.set i (.ow p (ds ++ [d])))) :
    Run K S (tDrop (tBM K "list" rAppend (tVar i) (tCons te tNil))) G N R Bk := fun B O D σ H hh a b c => by
  obtain ⟨o, h1, rfl, xs, h3, h4⟩ := hh.sl i _ hi
  refine ⟨.ref p, h1, .inl ⟨rfl, xs, SqL.of h3⟩, ?_⟩
  refine h B O σ H hh _ fun v H1 d hd hh1 g1 d1 => ?_
  obtain ⟨o, h1, e, ys, h3, h4⟩ := hh1.sl i _ hi
  have hl' : ys.length < sizeLine := by rw [DnA.len h4]; exact Nat.lt_of_lt_of_le hl (by decide)
  exact ⟨p, ys, v, rfl, rfl, h3, hl', a _ _ _ (hn d hd) (hh1.app hi h3 d1)⟩
/-- reading an own list -/
theorem own_dn {B : Hp} {O : Ow} {H : Hp} {σ : St} {i : Nat} {p : Addr} {ds : List Dt} (hh : Hold K B S O G H σ) (hi : G[i]? = some (.ow p ds)) : σ[i]? = some (some (.ref p)) ∧ ∃ xs, H p = some (.lst xs) ∧ DnA K (hid H (pof O G)) ds xs := by
  obtain ⟨o, h1, rfl, xs, h3, h4⟩ := hh.sl i _ hi
  exact ⟨h1, xs, h3, h4⟩
theorem run_retO {i : Nat} {p : Addr} {ds : List Dt} (hi : G[i]? = some (.ow p ds)) (h : R (.lst ds)) : Run K S (tRet (tVar i)) G N R Bk := fun B O D σ H hh a b c => by
  obtain ⟨h1, xs, h3, h4⟩ := own_dn hh hi
  refine ⟨.ref p, h1, b _ _ H h hh.fin ⟨p, xs, rfl, ?_, DnA.mono (hid_sub hh.subP) ds h4⟩⟩
  rw [hid_out fun z => ?_]
  · exact h3
  · rcases List.mem_append.mp z with z | z
    · exact (List.nodup_append.mp hh.nd).2.2 p z p (mem_ads hi rfl) rfl
    · exact hh.AnotS i _ p hi rfl rfl z
end
end Sb

set_option Elab.async false
set_option linter.all false
set_option maxRecDepth 100000
set_option autoImplicit false
namespace Sb
open PySem PySem.Spec L2
variable {K : KX} {S : List Addr} {G : List Sl}

/-! ### walks -/
structure WkJ (K : PySem.W.Frag) (Bx : Hp) (J : It) (ds : List Dt) : Prop where
  go : ∀ i H, ExN Bx H → i < ds.length → J.go i H
  stop : ∀ H, ExN Bx H → J.stop ds.length H
  yld : ∀ i H x H' d, ExN Bx H → ds[i]? = some d → J.yld i H x H' → Ex H H' ∧ ∀ P, Trk P H → ExN Bx (hid H P) → Dn K (hid H' P) d x
def Wk (K : KX) (S : List Addr) (G : List Sl) (wi : TI) (post : List Dt → Prop) : Prop := ∀ B O σ H, Hold K B S O G H σ → ∀ R : It → Hp → Prop,
  (∀ J H1 ds, post ds → Hold K B S O G H1 σ → Gr (pof O G) H H1 → WkJ K (hid H1 (pof O G)) J ds → R J H1) → wi σ H R
theorem wk_list {tl : TE} {p : List Dt → Prop} (h : Eg K S G tl (fun d => ∃ ds, d = .lst ds ∧ p ds)) : Wk K S G (iList K tl) p := fun B O σ H hh R k =>
  h B O σ H hh _ fun v H1 d hd h1 g1 d1 => by
    obtain ⟨ds, rfl, hp⟩ := hd
    obtain ⟨a, xs, rfl, s1, s2⟩ := d1
    refine ⟨a, rfl, ⟨xs, SqL.of (hid_ex _ _ _ s1)⟩, k _ _ ds hp h1 g1 ⟨fun i H' e hi => ?_, fun H' e => ?_, fun i H' x H'' d e hi y => ?_⟩⟩
    · have hl := DnA.len s2
      exact ⟨xs, xs[i]'(by omega), SqL.of (e _ _ s1 nt_lst), List.getElem?_eq_getElem _⟩
    · exact ⟨xs, SqL.of (e _ _ s1 nt_lst), by rw [DnA.len s2]; exact Nat.le_refl _⟩
    · obtain ⟨rfl, y⟩ := y
      obtain ⟨v, q1, q2⟩ := DnA.get s2 hi
      have := y xs (SqL.of (e _ _ s1 nt_lst))
      rw [q1] at this
      cases this
      exact ⟨Ex.refl _, fun P _ eb => Dn.mono eb d q2⟩
theorem wk_tup {tl : TE} {p : List Dt → Prop} (h : Eg K S G tl (fun d => ∃ ds, d = .tup ds ∧ p ds)) : Wk K S G (iTup K tl) p := fun B O σ H hh R k =>
  h B O σ H hh _ fun v H1 d hd h1 g1 d1 => by
    obtain ⟨ds, rfl, hp⟩ := hd
    obtain ⟨a, xs, rfl, s1, s2⟩ := d1
    refine ⟨a, rfl, ⟨xs, (hid_ex _).sqT s1⟩, k _ _ ds hp h1 g1 ⟨fun i H' e hi => ?_, fun H' e => ?_, fun i H' x H'' d e hi y => ?_⟩⟩
    · have hl := DnA.len s2
      exact ⟨xs, xs[i]'(by omega), e.sqT s1, List.getElem?_eq_getElem _⟩
    · exact ⟨xs, e.sqT s1, by rw [DnA.len s2]; exact Nat.le_refl _⟩
    · obtain ⟨rfl, y⟩ := y
      obtain ⟨v, q1, q2⟩ := DnA.get s2 hi
      have := y xs (e.sqT s1)
      rw [q1] at this
      cases this
      exact ⟨Ex.refl _, fun P _ eb => Dn.mono eb d q2⟩
def rng (lo : Int) (n : Nat) : List Dt := (List.range n).map fun (i : Nat) => Dt.int (lo + (i : Int))
theorem rng_len (lo : Int) (n : Nat) : (rng lo n).length = n := by unfold rng; rw [List.length_map, List.length_range]
theorem rng_get {lo : Int} {n i : Nat} {d : Dt} (h : (rng lo n)[i]? = some d) : i < n ∧ d = .int (lo + (i : Int)) := by
  unfold rng at h
  rw [List.getElem?_map] at h
  by_cases l : i < n
  · rw [List.getElem?_range l] at h
    exact ⟨l, (Option.some.inj h).symm⟩
  · rw [List.getElem?_eq_none (by rw [List.length_range]; omega)] at h
    cases h
theorem wkJ_rng {Bx : Hp} {lo : Int} {n : Nat} : WkJ K Bx (Itr lo n) (rng lo n) where
  go := fun i H _ hi => by rw [rng_len] at hi; exact hi
  stop := fun H _ => by rw [rng_len]; exact Nat.le_refl n
  yld := fun i H x H' d _ hi y => by
    obtain ⟨rfl, rfl⟩ := y
    obtain ⟨_, rfl⟩ := rng_get hi
    exact ⟨Ex.refl _, fun P _ _ => rfl⟩
theorem wk_rng1 {ta : TA} {p : List Dt → Prop} (h : Ea K S G ta (fun ds => ∃ n : Int, ds = [.int n] ∧ -(2 ^ 62) ≤ n ∧ n < 2 ^ 62 ∧ p (rng 0 n.toNat))) : Wk K S G (iRng1 ta) p := fun B O σ H hh R k =>
  h B O σ H hh _ fun vs H1 ds hd h1 g1 d1 => by
    obtain ⟨n, rfl, h2, h3, hp⟩ := hd
    obtain ⟨v, r, rfl, e1, e2⟩ := d1
    cases (show v = _ from e1)
    cases (show r = [] from e2)
    exact ⟨n, rfl, h2, h3, k _ _ _ hp h1 g1 wkJ_rng⟩
theorem wk_rng2 {ta : TA} {p : List Dt → Prop} (h : Ea K S G ta (fun ds => ∃ m n : Int, ds = [.int m, .int n] ∧ (-(2 ^ 62) ≤ m ∧ m < 2 ^ 62 ∧ -(2 ^ 62) ≤ n ∧ n < 2 ^ 62) ∧ p (rng m (n - m).toNat))) : Wk K S G (iRng2 ta) p := fun B O σ H hh R k =>
  h B O σ H hh _ fun vs H1 ds hd h1 g1 d1 => by
    obtain ⟨m, n, rfl, h2, hp⟩ := hd
    obtain ⟨v, r, rfl, e1, w, r', rfl, e2, e3⟩ := d1
    cases (show v = _ from e1)
    cases (show w = _ from e2)
    cases (show r' = [] from e3)
    exact ⟨m, n, rfl, h2, k _ _ _ hp h1 g1 wkJ_rng⟩
/-- a text's signs -/
def sgs (x : Str) : List Dt := x.cps.toList.map fun c => Dt.str ⟨#[c]⟩
theorem wk_str {te : TE} {p : List Dt → Prop} (h : Eg K S G te (fun d => ∃ x, d = .str x ∧ p (sgs x))) : Wk K S G (iStr te) p := fun B O σ H hh R k =>
  h B O σ H hh _ fun v H1 d hd h1 g1 d1 => by
    obtain ⟨x, rfl, hp⟩ := hd
    have hl : (sgs x).length = x.cps.size := by unfold sgs; rw [List.length_map, Array.length_toList]
    refine ⟨x, d1, k _ _ _ hp h1 g1 ⟨fun i H' e hi => ?_, fun H' e => ?_, fun i H' y H'' d e hi q => ?_⟩⟩
    · rw [hl] at hi; exact hi
    · rw [hl]; exact Nat.le_refl _
    · obtain ⟨rfl, c, hc, rfl⟩ := q
      unfold sgs at hi
      rw [List.getElem?_map, Array.getElem?_toList, hc] at hi
      cases hi
      exact ⟨Ex.refl _, fun P _ _ => rfl⟩
theorem wk_imp {wi : TI} {p q : List Dt → Prop} (h : Wk K S G wi p) (i : ∀ d, p d → q d) : Wk K S G wi q := fun B O σ H hh R k => h B O σ H hh R fun J H1 ds hp => k J H1 ds (i ds hp)

/-! ### for -/
theorem Hold.exB {B : Hp} {O : Ow} {H : Hp} {σ : St} (h : Hold K B S O G H σ) (hB : ∀ a o, B a = some o → a ∉ S) : ExN B (hid H (pof O G)) := fun a o e nt => h.ex a o e nt (hB a o e)
theorem run_for {wi : TI} {g : TG} {tb : TS} {N Bk : List Sl → Prop} {R : Dt → Prop} {p : List Dt → Prop} (hw : Wk K S G wi p)
    (hb : ∀ ds, p ds → ∃ I : Nat → List Sl → Prop, I 0 G ∧ (∀ i d G1, ds[i]? = some d → I i G1 → ∃ W G2, Gg K S G1 g d W G2 ∧ Run K S tb G2 (I (i + 1)) R N) ∧ ∀ G1, I ds.length G1 → N G1) : Run K S (tFor wi g tb) G N R Bk := fun B O D σ H hh a b c =>
  hw B O σ H hh _ fun J H1 ds hp hh1 g1 wk => by
    obtain ⟨I, i0, step, fin⟩ := hb ds hp
    have hB : ∀ a o, hid H1 (pof O G) a = some o → a ∉ S := fun a o e z => hh1.notS e z
    have bb : ∀ a o, B a = some o → NT o → a ∉ S → hid H1 (pof O G) a = some o := fun a o e nt n => hh1.ex a o e nt n
    refine ⟨fun i m σ' H' => m = ds.length - i ∧ i ≤ ds.length ∧ ∃ G1, I i G1 ∧ Hold K (hid H1 (pof O G)) S O G1 H' σ', ⟨ds.length, by omega, by omega, G, i0, hh1.rebase⟩, ?_⟩
    rintro i m σ' H' ⟨rfl, hi, G1, hI, hG⟩
    have e1 : ExN (hid H1 (pof O G)) (hid H' (pof O G1)) := hG.exB hB
    have e0 : ExN (hid H1 (pof O G)) H' := e1.trans (hid_ex _).n
    by_cases hlt : i < ds.length
    · refine .inr ⟨wk.go i H' e0 hlt, fun σ2 H2 => ∃ G2, I (i + 1) G2 ∧ Hold K (hid H1 (pof O G)) S O G2 H2 σ2, fun σ2 H2 h2 => ⟨ds.length - (i + 1), by omega, rfl, by omega, h2⟩, fun x H2 y => ?_⟩
      have hd : ds[i]? = some ds[i] := List.getElem?_eq_getElem hlt
      obtain ⟨ex2, dn⟩ := wk.yld i H' x H2 _ e0 hd y
      obtain ⟨W, G2, hg, hr⟩ := step i _ G1 hd hI
      have hG2 := hG.more ex2
      refine hg _ O σ' H2 x hG2 (dn _ hG.trk e1) _ fun σ3 h3 _ _ => ?_
      refine hr _ O _ σ3 H2 h3 (fun G4 σ4 H4 i4 h4 => ⟨G4, i4, h4⟩) (fun v d H4 r4 f4 d4 => b v d H4 r4 ⟨fun a o e nt n => f4.ex a o (bb a o e nt n) nt n, f4.oo, f4.on, f4.tb, f4.sr⟩ d4) fun G4 σ4 H4 n4 h4 => a G4 σ4 H4 n4 (h4.based bb)
    · have e : i = ds.length := by omega
      subst e
      exact .inl ⟨wk.stop H' e0, a G1 σ' H' (fin G1 hI) (hG.based bb)⟩

/-! ### comprehensions -/
theorem Hold.wiped {B : Hp} {O : Ow} {H : Hp} {σ : St} {W : List Nat} (h : Hold K B S O G H σ) (hW : ∀ i ∈ W, ∀ s, G[i]? = some s → s = .un) : Hold K B S O G H (wipe σ W) where
  len := by rw [wipe_length]; exact h.len
  sl := fun i s e => by
    obtain ⟨o, h1, h2⟩ := h.sl i s e
    rw [wipe_get, h1]
    by_cases m : i ∈ W
    · have := hW i m s e
      subst this
      rw [if_pos m]
      exact ⟨none, rfl, trivial⟩
    · rw [if_neg m]
      exact ⟨o, rfl, h2⟩
  nd := h.nd
  ss := h.ss
  ex := h.ex
  oo := h.oo
  on := h.on
  tb := h.tb
theorem Hold.unwipe {B : Hp} {O : Ow} {H H' : Hp} {σ : St} {W : List Nat} (h0 : Hold K B S O G H σ) (h : Hold K B S O G H' (wipe σ W)) (hW : ∀ i ∈ W, ∀ s, G[i]? = some s → s = .un) : Hold K B S O G H' σ where
  len := h0.len
  sl := fun i s e => by
    obtain ⟨o, h1, h2⟩ := h.sl i s e
    obtain ⟨o0, h3, _⟩ := h0.sl i s e
    rw [wipe_get] at h1
    by_cases m : i ∈ W
    · have := hW i m s e
      subst this
      exact ⟨o0, h3, trivial⟩
    · rw [if_neg m] at h1
      exact ⟨o, h1, h2⟩
  nd := h.nd
  ss := h.ss
  ex := h.ex
  oo := h.oo
  on := h.on
  tb := h.tb
theorem wipe_wipe {σ : St} {W : List Nat} : wipe (wipe σ W) W = wipe σ W := by
  apply List.ext_getElem?
  intro j
  rw [wipe_get, wipe_get]
  by_cases m : j ∈ W
  · rw [if_pos m, if_pos m]
    cases σ[j]? <;> rfl
  · rw [if_neg m, if_neg m]
/-- a new list, kept apart -/
theorem Hold.apart {B : Hp} {O : Ow} {H : Hp} {σ : St} {D : Addr} (h : Hold K B S O G H σ) (hD : H D = none) (hB : ∀ a o, B a = some o → a ∉ S) : Hold K B S ((D, .lst []) :: O) G (upd H D (.lst [])) σ := by
  have hf := h.fresh hD
  have gr : ExN (hid H (pof O G)) (hid (upd H D (.lst [])) (pof ((D, .lst []) :: O) G)) := fun a o e _ => by
    obtain ⟨n, e'⟩ := hid_some e
    have np : a ≠ D := ne_of_none e' hD
    show hid (upd H D (.lst [])) (D :: pof O G) a = some o
    rw [hid_out (fun z => (List.mem_cons.mp z).elim np n), upd_ne np]
    exact e'
  have up : ∀ a o, H a = some o → upd H D (.lst []) a = some o := fun a o e => by rw [upd_ne (ne_of_none e hD)]; exact e
  refine ⟨h.len, fun j t e => ?_, List.nodup_cons.mpr ⟨hf, h.nd⟩, h.ss, fun a o e nt n => gr a o (h.ex a o e nt n) nt, fun q hq => ?_, fun q hq => ?_, h.tb.ext (new_ex hD)⟩
  · obtain ⟨o, h1, h2⟩ := h.sl j t e
    refine ⟨o, h1, ?_⟩
    cases t with
    | un => trivial
    | rf q => exact h2
    | da d =>
      obtain ⟨v, x1, x2⟩ := h2
      exact ⟨v, x1, Dn.mono gr d x2⟩
    | ow q ds =>
      obtain ⟨x1, xs, x2, x3⟩ := h2
      exact ⟨x1, xs, up _ _ x2, DnA.mono gr ds x3⟩
    | od q ds =>
      obtain ⟨x1, xs, x2, x3⟩ := h2
      exact ⟨x1, xs, up _ _ x2, DnK.mono gr ds x3⟩
    | oi q ds => exact ⟨h2.1, up _ _ h2.2⟩
    | sr q =>
      obtain ⟨x1, x, y, z, x2⟩ := h2
      exact ⟨x1, x, y, z, up _ _ x2⟩
  · rcases List.mem_cons.mp hq with z | z
    · subst z; exact upd_same
    · exact up _ _ (h.oo q z)
  · rcases List.mem_cons.mp hq with z | z
    · subst z; exact nt_lst
    · exact h.on q z
theorem pof_cons {D : Addr} {o : HO} {O : Ow} : pof ((D, o) :: O) G = D :: pof O G := rfl
/-- it grows -/
theorem Hold.apart_up {B : Hp} {O : Ow} {H : Hp} {σ : St} {D : Addr} {o o' : HO} (h : Hold K B S ((D, o) :: O) G H σ) (n' : NT o' := by first | exact nt_lst | exact nt_ins | exact nt_dK) (c : NC o := by first | exact nc_lst | exact nc_ins | exact nc_dK) : Hold K B S ((D, o') :: O) G (upd H D o') σ := by
  have nd := h.nd
  rw [pof_cons] at nd
  have hf : D ∉ pof O G := (List.nodup_cons.mp nd).1
  have hin : D ∈ pof ((D, o) :: O) G := List.mem_cons_self
  have gr : ExN (hid H (pof ((D, o) :: O) G)) (hid (upd H D o') (pof ((D, o') :: O) G)) := hid_up (P := pof ((D, o) :: O) G) hin
  have ne : ∀ {a : Addr}, a ∈ pof O G → a ≠ D := fun ha z => hf (by rw [← z]; exact ha)
  have hD := h.oo (D, o) List.mem_cons_self
  refine ⟨h.len, fun j t e => ?_, nd, h.ss, fun a u e nt n => gr a u (h.ex a u e nt n) nt, fun q hq => ?_, fun q hq => ?_, tabs_past h.tb (not_tbl hD (h.on (D, o) List.mem_cons_self)) (not_cod hD c) fun a u n e => by rw [upd_ne n]; exact e⟩
  · obtain ⟨u, h1, h2⟩ := h.sl j t e
    refine ⟨u, h1, ?_⟩
    have nn : ∀ q, t.ad = some q → q ≠ D := fun q hq => ne (List.mem_append_right _ (mem_ads e hq))
    cases t with
    | un => trivial
    | rf q => exact h2
    | da d =>
      obtain ⟨v, x1, x2⟩ := h2
      exact ⟨v, x1, Dn.mono gr d x2⟩
    | ow q ds =>
      obtain ⟨x1, xs, x2, x3⟩ := h2
      exact ⟨x1, xs, by rw [upd_ne (nn q rfl)]; exact x2, DnA.mono gr ds x3⟩
    | od q ds =>
      obtain ⟨x1, xs, x2, x3⟩ := h2
      exact ⟨x1, xs, by rw [upd_ne (nn q rfl)]; exact x2, DnK.mono gr ds x3⟩
    | oi q ds => exact ⟨h2.1, by rw [upd_ne (nn q rfl)]; exact h2.2⟩
    | sr q =>
      obtain ⟨x1, x, y, z, x2⟩ := h2
      exact ⟨x1, x, y, z, by rw [upd_ne (nn q rfl)]; exact x2⟩
  · rcases List.mem_cons.mp hq with z | z
    · subst z; exact upd_same
    · rw [upd_ne (ne (List.mem_append_left _ (List.mem_map_of_mem z)))]
      exact h.oo q (List.mem_cons_of_mem _ z)
  · rcases List.mem_cons.mp hq with z | z
    · subst z; exact n'
    · exact h.on q (List.mem_cons_of_mem _ z)
/-- it is let go -/
theorem Hold.unapart {B : Hp} {O : Ow} {H : Hp} {σ : St} {D : Addr} {o : HO} (h : Hold K B S ((D, o) :: O) G H σ) : Hold K B S O G H σ := by
  have gr : ExN (hid H (pof ((D, o) :: O) G)) (hid H (pof O G)) := hid_sub fun a ha => List.mem_cons_of_mem _ ha
  refine ⟨h.len, fun j t e => ?_, (List.nodup_cons.mp h.nd).2, h.ss, fun a u e nt n => gr a u (h.ex a u e nt n) nt, fun q hq => h.oo q (List.mem_cons_of_mem _ hq), fun q hq => h.on q (List.mem_cons_of_mem _ hq), h.tb⟩
  obtain ⟨u, h1, h2⟩ := h.sl j t e
  refine ⟨u, h1, ?_⟩
  cases t with
  | un => trivial
  | rf q => exact h2
  | da d =>
    obtain ⟨v, x1, x2⟩ := h2
    exact ⟨v, x1, Dn.mono gr d x2⟩
  | ow q ds =>
    obtain ⟨x1, xs, x2, x3⟩ := h2
    exact ⟨x1, xs, x2, DnA.mono gr ds x3⟩
  | od q ds =>
    obtain ⟨x1, xs, x2, x3⟩ := h2
    exact ⟨x1, xs, x2, DnK.mono gr ds x3⟩
  | oi q ds => exact h2
  | sr q => exact h2
/-- what the turns may give: Rel d (none: left out | some e) -/
inductive Outs (Rel : Dt → Option Dt → Prop) : List Dt → List Dt → Prop
  | nil : Outs Rel [] []
  | skip {ds es : List Dt} {d : Dt} : Outs Rel ds es → Rel d none → Outs Rel (ds ++ [d]) es
  | add {ds es : List Dt} {d e : Dt} : Outs Rel ds es → Rel d (some e) → Outs Rel (ds ++ [d]) (es ++ [e])
theorem Outs.len {Rel : Dt → Option Dt → Prop} {ds es : List Dt} (h : Outs Rel ds es) : es.length ≤ ds.length := by
  induction h with
  | nil => exact Nat.le_refl _
  | skip _ _ ih => rw [List.length_append]; omega
  | add _ _ ih => rw [List.length_append, List.length_append]; simp only [List.length_cons, List.length_nil]; omega
theorem eg_lc {wi : TI} {g : TG} {tt : TT} {te : TE} {W : List Nat} {p : List Dt → Prop} {pz : Dt → Prop} {Rel : Dt → Option Dt → Prop} (hW : ∀ i ∈ W, ∀ s, G[i]? = some s → s = .un) (hw : Wk K S G wi p)
    (hp : ∀ ds, p ds → ds.length ≤ 10000 ∧ (∀ es, Outs Rel ds es → pz (.lst es)) ∧ ∀ d ∈ ds, ∃ G2 pb, Gg K S G g d W G2 ∧ Et K S G2 tt pb ∧ (pb false → Rel d none) ∧ (pb true → Eg K S G2 te (fun e => Rel d (some e)))
      ∧ (∀ B O H σ, Hold K B S O G2 H σ → Hold K B S O G H (wipe σ W))) : Eg K S G (tLc wi g tt te W) pz := fun B O σ H hh Q k =>
  hw B O σ H hh _ fun J H1 ds hds hh1 g1 wk => by
    obtain ⟨hlen, houts, hstep⟩ := hp ds hds
    have hB : ∀ a o, hid H1 (pof O G) a = some o → a ∉ S := fun a o e z => hh1.notS e z
    have bb : ∀ a o, B a = some o → NT o → a ∉ S → hid H1 (pof O G) a = some o := fun a o e nt n => hh1.ex a o e nt n
    intro D hD
    refine ⟨fun i m H' => m = ds.length - i ∧ i ≤ ds.length ∧ ∃ es xs, Outs Rel (ds.take i) es ∧ Hold K (hid H1 (pof O G)) S ((D, .lst xs) :: O) G H' (wipe σ W) ∧ DnA K (hid H' (D :: pof O G)) es xs,
      ⟨ds.length, by omega, by omega, [], [], by rw [List.take_zero]; exact .nil, (hh1.rebase.wiped hW).apart hD hB, rfl⟩, ?_⟩
    rintro i m H' ⟨rfl, hi, es, xs, ho, hG, hx⟩
    have e1 : ExN (hid H1 (pof O G)) (hid H' (pof ((D, .lst xs) :: O) G)) := hG.exB hB
    have e0 : ExN (hid H1 (pof O G)) H' := e1.trans (hid_ex _).n
    by_cases hlt : i < ds.length
    · refine .inr ⟨wk.go i H' e0 hlt, fun H2 => ∃ es xs, Outs Rel (ds.take (i + 1)) es ∧ Hold K (hid H1 (pof O G)) S ((D, .lst xs) :: O) G H2 (wipe σ W) ∧ DnA K (hid H2 (D :: pof O G)) es xs, fun H2 h2 => ⟨ds.length - (i + 1), by omega, rfl, by omega, h2⟩, fun x H2 y => ?_⟩
      have hd : ds[i]? = some ds[i] := List.getElem?_eq_getElem hlt
      obtain ⟨ex2, dn⟩ := wk.yld i H' x H2 _ e0 hd y
      obtain ⟨G2, pb, hg, ht, hf, hte, hback⟩ := hstep ds[i] (List.getElem_mem hlt)
      have hG2 := hG.more ex2
      have tke : ds.take (i + 1) = ds.take i ++ [ds[i]] := List.take_succ_eq_append_getElem hlt
      have hx2 : DnA K (hid H2 (D :: pof O G)) es xs := DnA.mono (hid_mono fun a o _ e => ex2 a o e) es hx
      refine hg _ _ (wipe σ W) H2 x hG2 (dn _ hG.trk e1) _ fun σ3 h3 hpf hw3 => ⟨?_, ?_⟩
      · rw [hw3, wipe_wipe]
      · have hww : wipe (wipe σ W) W = wipe σ W := wipe_wipe
        have pf : pof ((D, HO.lst xs) :: O) G2 = D :: pof O G := by rw [hpf]; rfl
        refine ht _ _ σ3 H2 h3 _ fun b H3 hb hh3 g3 => ?_
        cases b with
        | false =>
          refine iteF ⟨es, xs, ?_, ?_, ?_⟩
          · rw [tke]; exact .skip ho (hf hb)
          · have := hback _ _ _ _ hh3
            rw [hw3, hww] at this
            exact this
          · rw [pf] at g3
            exact DnA.mono g3 es hx2
        | true =>
          refine iteT ?_
          refine hte hb _ _ σ3 H3 hh3 _ fun v H4 e he hh4 g4 d4 => ?_
          rw [pf] at g3 g4 d4
          have hl' : xs.length < sizeLine := by
            have := ho.len
            rw [DnA.len hx]
            have h5 : (ds.take i).length ≤ 10000 := by rw [List.length_take]; omega
            exact Nat.lt_of_le_of_lt (Nat.le_trans this h5) (by decide)
          refine ⟨xs, hh4.oo (D, .lst xs) List.mem_cons_self, hl', es ++ [e], xs ++ [v], ?_, ?_, ?_⟩
          · rw [tke]; exact .add ho he
          · have := hback _ _ _ _ (hh4.apart_up (o' := .lst (xs ++ [v])))
            rw [hw3, hww] at this
            exact this
          · have up : ExN (hid H4 (D :: pof O G)) (hid (upd H4 D (.lst (xs ++ [v]))) (D :: pof O G)) := hid_up List.mem_cons_self
            exact DnA.app (DnA.mono (g3.trans (g4.trans up)) es hx2) (DnA.one (Dn.mono up e d4))
    · have e : i = ds.length := by omega
      subst e
      rw [List.take_length] at ho
      refine .inl ⟨wk.stop H' e0, ?_⟩
      have h5 := (hG.unapart).based bb
      have hD5 : H' D = some (.lst xs) := hG.oo (D, .lst xs) List.mem_cons_self
      have nD : D ∉ pof O G := (List.nodup_cons.mp hG.nd).1
      refine k _ H' _ (houts es ho) (hh.unwipe h5 hW) (g1.trans ?_) ⟨D, xs, rfl, by rw [hid_out nD]; exact hD5, DnA.mono (hid_sub fun a ha => List.mem_cons_of_mem _ ha) es hx⟩
      exact (e1.trans (hid_sub fun a ha => List.mem_cons_of_mem _ ha))
end Sb

set_option Elab.async false
set_option linter.all false
set_option maxRecDepth 100000
set_option autoImplicit false
namespace Sb
open PySem PySem.Spec PyProof.Rows L2
variable {K : KX} {S : List Addr} {G : List Sl}

/-! ### promises -/
def spP (K : KX) (pre : List Dt → Prop) (post : List Dt → Dt → Prop) : Sp := fun vs H Q _ => ∃ P ds, Trk P H ∧ P.Nodup ∧ Tb K H ∧ DnA K (hid H P) ds vs ∧ pre ds ∧ ∀ v d H', post ds d → ExN H H' → Tb K H' → Dn K (hid H' P) d v → Q v H'
def spS (K : KX) (pre : List Dt → Prop) (post : List Dt → Dt → Prop) : Sp := fun vs H Q _ => ∃ P p ds ws, vs = .ref p :: ws ∧ p ∈ P ∧ SrcAt H p ∧ Trk P H ∧ P.Nodup ∧ Tb K H ∧ DnA K (hid H P) ds ws ∧ pre ds ∧
  ∀ v d H', post ds d → SrcAt H' p → (∀ a o, a ≠ p → H a = some o → NT o → H' a = some o) → Tb K H' → Dn K (hid H' P) d v → Q v H'
/-- never called -/
def spN : Sp := fun _ _ _ _ => False
theorem eg_call {pre : List Dt → Prop} {post : List Dt → Dt → Prop} {E : XK} {tA : TA} {px : List Dt → Prop} {pz : Dt → Prop} (ha : Ea K S G tA px) (h : ∀ ds, px ds → pre ds ∧ ∀ d, post ds d → pz d) : Eg K S G (tCall (spP K pre post) [] E tA) pz := fun B O σ H hh Q k =>
  ha B O σ H hh _ fun vs H1 ds hx h1 g1 d1 => by
    rw [List.append_nil]
    exact ⟨_, ds, h1.trk, h1.nd, h1.tb, d1, (h ds hx).1, fun v d H' hp e tb dn => k v H' d ((h ds hx).2 d hp) (h1.moreN e tb) (g1.trans (hid_monoN fun a o _ z n => e a o z n)) dn⟩
theorem eg_callS {pre : List Dt → Prop} {post : List Dt → Dt → Prop} {E : XK} {tA : TA} {px : List Dt → Prop} {pz : Dt → Prop} {i : Nat} {p : Addr} (hi : G[i]? = some (.sr p)) (ha : Ea K S G tA px) (h : ∀ ds, px ds → pre ds ∧ ∀ d, post ds d → pz d) :
    Eg K S G (tCall (spS K pre post) [] E (tCons (tVar i) tA)) pz := fun B O σ H hh Q k => by
  obtain ⟨o, e1, rfl, _⟩ := hh.sl i _ hi
  refine ⟨_, e1, ?_⟩
  refine ha B O σ H hh _ fun vs H1 ds hx h1 g1 d1 => ?_
  show spS K pre post ((.ref p :: vs) ++ []) H1 Q E
  rw [List.append_nil]
  have hS : p ∈ S := by rw [← h1.ss]; exact List.mem_filterMap.mpr ⟨_, List.mem_of_getElem? hi, rfl⟩
  have hP : p ∈ pof O G := List.mem_append_right _ (mem_ads hi rfl)
  refine ⟨pof O G, p, ds, vs, rfl, hP, h1.srcAt p hS, h1.trk, h1.nd, h1.tb, d1, (h ds hx).1, fun v d H' hp sa e tb dn => k v H' d ((h ds hx).2 d hp) (h1.subN p hS e sa tb) (g1.trans (hid_monoN fun a o n z nt => e a o (fun q => n (by rw [q]; exact hP)) z nt)) dn⟩
def obj (H : Hp) (a : Addr) : HO := match H a with | some o => o | none => .lst []
theorem obj_some {H : Hp} {a : Addr} (h : H a ≠ none) : H a = some (obj H a) := by
  unfold obj
  cases e : H a with
  | none => exact absurd e h
  | some o => rfl
theorem Trk.obj {P : List Addr} {H : Hp} (t : Trk P H) {a : Addr} (h : a ∈ P) : H a = some (obj H a) ∧ NT (obj H a) := by
  obtain ⟨o, e, n⟩ := t a h
  have q : Sb.obj H a = o := by unfold Sb.obj; rw [e]
  rw [q]
  exact ⟨e, n⟩
def fr0 (ds : List Dt) (n : Nat) : List Sl := ds.map Sl.da ++ List.replicate (n - ds.length) .un
theorem ads_fr0 (ds : List Dt) (n : Nat) : ads (fr0 ds n) = [] := by
  unfold ads fr0
  rw [List.filterMap_append]
  have h1 : (ds.map Sl.da).filterMap Sl.ad = [] := List.filterMap_eq_nil_iff.mpr fun s hs => by
    obtain ⟨d, _, rfl⟩ := List.mem_map.mp hs
    rfl
  have h2 : (List.replicate (n - ds.length) Sl.un).filterMap Sl.ad = [] := List.filterMap_eq_nil_iff.mpr fun s hs => by
    rw [List.eq_of_mem_replicate hs]
    rfl
  rw [h1, h2]
  rfl
theorem srs_fr0 (ds : List Dt) (n : Nat) : srs (fr0 ds n) = [] := by
  unfold srs fr0
  rw [List.filterMap_append]
  have h1 : (ds.map Sl.da).filterMap Sl.sd = [] := List.filterMap_eq_nil_iff.mpr fun s hs => by
    obtain ⟨d, _, rfl⟩ := List.mem_map.mp hs
    rfl
  have h2 : (List.replicate (n - ds.length) Sl.un).filterMap Sl.sd = [] := List.filterMap_eq_nil_iff.mpr fun s hs => by
    rw [List.eq_of_mem_replicate hs]
    rfl
  rw [h1, h2]
  rfl
theorem sl_fr0 {H : Hp} {P : List Addr} {ds : List Dt} {vs : List V} {n : Nat} (d : DnA K (hid H P) ds vs) : ∀ (i : Nat) (s : Sl), (fr0 ds n)[i]? = some s → ∃ o, (vs.map some ++ List.replicate (n - vs.length) none)[i]? = some o ∧ SlOk K P H o s := fun i s e => by
  have hl := DnA.len d
  unfold fr0 at e
  by_cases h : i < ds.length
  · rw [List.getElem?_append_left (by rw [List.length_map]; exact h), List.getElem?_map, List.getElem?_eq_getElem h] at e
    cases e
    obtain ⟨v, e1, e2⟩ := DnA.get d (List.getElem?_eq_getElem h)
    refine ⟨some v, ?_, v, rfl, e2⟩
    rw [List.getElem?_append_left (by rw [List.length_map]; omega), List.getElem?_map, e1]
    rfl
  · rw [List.getElem?_append_right (by rw [List.length_map]; omega), List.length_map] at e
    have q : i - ds.length < n - ds.length := by
      have := (List.getElem?_eq_some_iff.mp e).1
      rw [List.length_replicate] at this
      exact this
    rw [List.getElem?_replicate, if_pos q] at e
    cases e
    refine ⟨none, ?_, trivial⟩
    rw [List.getElem?_append_right (by rw [List.length_map]; omega), List.length_map, List.getElem?_replicate, if_pos (by omega)]
theorem entryP {P : List Addr} {H : Hp} {ds : List Dt} {vs : List V} {N : List Str} (t : Trk P H) (nd : P.Nodup) (tb : Tb K H) (d : DnA K (hid H P) ds vs) : Hold K (hid H P) [] (P.map fun a => (a, obj H a)) (fr0 ds N.length) H (start N vs) := by
  have hl := DnA.len d
  have ep : pof (P.map fun a => (a, obj H a)) (fr0 ds N.length) = P := by
    unfold pof
    rw [ads_fr0, List.append_nil, List.map_map]
    exact List.map_id P
  refine ⟨?_, by rw [ep]; exact sl_fr0 d, by rw [ep]; exact nd, srs_fr0 _ _, by rw [ep]; exact fun a o e _ _ => e, fun q hq => ?_, fun q hq => ?_, tb⟩
  · unfold L2.start fr0
    rw [List.length_append, List.length_append, List.length_map, List.length_map, List.length_replicate, List.length_replicate, hl]
  · obtain ⟨a, ha, rfl⟩ := List.mem_map.mp hq
    exact (t.obj ha).1
  · obtain ⟨a, ha, rfl⟩ := List.mem_map.mp hq
    exact (t.obj ha).2
theorem entryS {P : List Addr} {p : Addr} {H : Hp} {ds : List Dt} {ws : List V} {x : Str} {N : List Str} (hp : p ∈ P) (sa : SrcAt H p) (t : Trk P H) (nd : P.Nodup) (tb : Tb K H) (d : DnA K (hid H P) ds ws) :
    Hold K (hid H P) [p] ((P.filter (· ≠ p)).map fun a => (a, obj H a)) (.sr p :: fr0 ds N.length) H (start (x :: N) (.ref p :: ws)) := by
  have hl := DnA.len d
  have ea : ads (.sr p :: fr0 ds N.length) = [p] := by
    have : ads (.sr p :: fr0 ds N.length) = p :: ads (fr0 ds N.length) := rfl
    rw [this, ads_fr0]
  have ep : pof ((P.filter (· ≠ p)).map fun a => (a, obj H a)) (.sr p :: fr0 ds N.length) = P.filter (· ≠ p) ++ [p] := by
    unfold pof
    rw [ea, List.map_map]
    congr 1
    exact List.map_id _
  have mem : ∀ a, a ∈ P.filter (· ≠ p) ++ [p] ↔ a ∈ P := fun a => by
    simp only [List.mem_append, List.mem_filter, List.mem_singleton, decide_eq_true_eq]
    constructor
    · rintro (⟨h, _⟩ | h)
      · exact h
      · rw [h]; exact hp
    · intro h
      by_cases e : a = p
      · exact .inr e
      · exact .inl ⟨h, by simpa using e⟩
  have eq : hid H (P.filter (· ≠ p) ++ [p]) = hid H P := by
    funext a
    by_cases h : a ∈ P
    · rw [hid_in h, hid_in ((mem a).mpr h)]
    · rw [hid_out h, hid_out fun z => h ((mem a).mp z)]
  refine ⟨?_, fun i s e => ?_, ?_, ?_, by rw [ep, eq]; exact fun a o e _ _ => e, fun q hq => ?_, fun q hq => ?_, tb⟩
  · unfold L2.start fr0
    simp only [List.length_append, List.length_map, List.length_replicate, List.length_cons, hl]
    omega
  · rw [ep]
    cases i with
    | zero =>
      cases e
      exact ⟨some (.ref p), rfl, rfl, sa⟩
    | succ i =>
      have e' : (fr0 ds N.length)[i]? = some s := e
      obtain ⟨o, h1, h2⟩ := sl_fr0 (K := K) (H := H) (P := P.filter (· ≠ p) ++ [p]) (by rw [eq]; exact d) i s e'
      refine ⟨o, ?_, h2⟩
      show ((some (V.ref p) :: ws.map some) ++ List.replicate ((x :: N).length - (V.ref p :: ws).length) none)[i + 1]? = some o
      have en : (x :: N).length - (V.ref p :: ws).length = N.length - ws.length := by simp only [List.length_cons]; omega
      rw [en]
      exact h1
  · rw [ep]
    refine List.nodup_append.mpr ⟨nd.filter _, by simp, fun a ha b hb => ?_⟩
    have : b = p := by simpa using hb
    subst this
    simpa using (List.mem_filter.mp ha).2
  · show srs (.sr p :: fr0 ds N.length) = [p]
    have : srs (.sr p :: fr0 ds N.length) = p :: srs (fr0 ds N.length) := rfl
    rw [this, srs_fr0]
  · obtain ⟨a, ha, rfl⟩ := List.mem_map.mp hq
    exact (t.obj (List.mem_filter.mp ha).1).1
  · obtain ⟨a, ha, rfl⟩ := List.mem_map.mp hq
    exact (t.obj (List.mem_filter.mp ha).1).2
/-- from a body's reading to the promise -/
theorem endP {t : TS} {pre : List Dt → Prop} {post : List Dt → Dt → Prop} {N : List Str} {vs : List V} {H : Hp} {Q : VK} {E : XK} (h : spP K pre post vs H Q E) (hr : ∀ ds, pre ds → Run K [] t (fr0 ds N.length) (fun _ => post ds .non) (post ds) (fun _ => False)) :
    t { nx := fun _ H' => Q .non H', rt := Q } (start N vs) H := by
  obtain ⟨P, ds, tr, nd, tb, d, hp, k⟩ := h
  have Ho : op (P.map fun a => (a, obj H a)) = P := by unfold op; rw [List.map_map]; exact List.map_id P
  have fin : ∀ {v : V} {d : Dt} {H' : Hp}, post ds d → Fin K (hid H P) [] (P.map fun a => (a, obj H a)) H' → Dn K (hid H' (op (P.map fun a => (a, obj H a)) ++ [])) d v → Q v H' := fun {v d H'} hd f dn => by
    rw [Ho, List.append_nil] at dn
    refine k v d H' hd (fun a o e nt => ?_) f.tb dn
    by_cases hm : a ∈ P
    · have e1 := f.oo (a, obj H a) (List.mem_map_of_mem hm)
      have e2 := (tr.obj hm).1
      rw [e] at e2
      rw [Option.some.inj e2]
      exact e1
    · have e1 := f.ex a o (by rw [hid_out hm]; exact e) nt (by simp)
      exact (hid_some e1).2
  refine hr ds hp _ _ _ _ H (entryP tr nd tb d) (fun G' σ' H' n hh => fin n hh.fin rfl) (fun v d H' r f dn => fin r f dn) (fun _ _ _ n _ => n.elim)
theorem endS {t : TS} {pre : List Dt → Prop} {post : List Dt → Dt → Prop} {x : Str} {N : List Str} {vs : List V} {H : Hp} {Q : VK} {E : XK} (h : spS K pre post vs H Q E) (hr : ∀ p ds, pre ds → Run K [p] t (.sr p :: fr0 ds N.length) (fun _ => post ds .non) (post ds) (fun _ => False)) :
    t { nx := fun _ H' => Q .non H', rt := Q } (start (x :: N) vs) H := by
  obtain ⟨P, p, ds, ws, rfl, hP, sa, tr, nd, tb, d, hp, k⟩ := h
  have Ho : op ((P.filter (· ≠ p)).map fun a => (a, obj H a)) = P.filter (· ≠ p) := by unfold op; rw [List.map_map]; exact List.map_id _
  have fin : ∀ {v : V} {d : Dt} {H' : Hp}, post ds d → Fin K (hid H P) [p] ((P.filter (· ≠ p)).map fun a => (a, obj H a)) H' → Dn K (hid H' (op ((P.filter (· ≠ p)).map fun a => (a, obj H a)) ++ [p])) d v → Q v H' := fun {v d H'} hd f dn => by
    rw [Ho] at dn
    have mem : ∀ a, a ∈ P → a ∈ P.filter (· ≠ p) ++ [p] := fun a h => by
      by_cases e : a = p
      · exact List.mem_append_right _ (by simp [e])
      · exact List.mem_append_left _ (List.mem_filter.mpr ⟨h, by simpa using e⟩)
    have mem2 : ∀ a, a ∈ P.filter (· ≠ p) ++ [p] → a ∈ P := fun a h => by
      rcases List.mem_append.mp h with z | z
      · exact (List.mem_filter.mp z).1
      · have : a = p := by simpa using z
        rw [this]; exact hP
    refine k v d H' hd (f.sr p (by simp)) (fun a o n e nt => ?_) f.tb (Dn.mono (hid_sub mem) d dn)
    by_cases hm : a ∈ P
    · have e1 := f.oo (a, obj H a) (List.mem_map_of_mem (List.mem_filter.mpr ⟨hm, by simpa using n⟩))
      have e2 := (tr.obj hm).1
      rw [e] at e2
      rw [Option.some.inj e2]
      exact e1
    · have e1 := f.ex a o (by rw [hid_out hm]; exact e) nt (by simpa using n)
      exact (hid_some e1).2
  refine hr p ds hp _ _ _ _ H (entryS hP sa tr nd tb d) (fun G' σ' H' n hh => fin n hh.fin rfl) (fun v d H' r f dn => fin r f dn) (fun _ _ _ n _ => n.elim)
section
variable {P : Program} {w : World} {mg : Str → Option Value} {base : Heap}
theorem fn_pure {x qual : Str} {st : Stmt} {f : Addr} {fd : FuncData} {N ps : List Str} {k : Nat} {pre : List Dt → Prop} {post : List Dt → Dt → Prop} (F : Fun K x qual st f fd) (Sc : FnScope N ps (defScope st)) (hl : ∀ ds, pre ds → ds.length = ps.length)
    (hb : ∀ (cdv : Value) (A : Around) (outer : List Env) (s : Shared) (H : Hp) (E : XK), Room k (A.deeper (envOfC qual (defScope st) s.heap.objs.size f cdv)) →
      ∃ t, PSs (cxOf CX0 P w K mg base N qual (defScope st) f cdv A outer s H E).nox (defBody st) t ∧ ∀ ds, pre ds → Run K [] t (fr0 ds N.length) (fun _ => post ds .non) (post ds) (fun _ => False)) :
    FnOk P w K mg base CX0 (k + 1) f fd ps (spP K pre post) := by
  refine F.ok Sc (fun vs H Q E h => ?_) fun cdv A outer s H vs Q E hr h => ?_
  · obtain ⟨_, ds, _, _, _, d, hp, _⟩ := h
    rw [DnA.len d]
    exact hl ds hp
  · obtain ⟨t, h1, h2⟩ := hb cdv A outer s H E hr
    exact ⟨t, h1, endP h h2⟩
theorem fn_src {x qual : Str} {st : Stmt} {f : Addr} {fd : FuncData} {y : Str} {N ps : List Str} {k : Nat} {pre : List Dt → Prop} {post : List Dt → Dt → Prop} (F : Fun K x qual st f fd) (Sc : FnScope (y :: N) (y :: ps) (defScope st)) (hl : ∀ ds, pre ds → ds.length = ps.length)
    (hb : ∀ (cdv : Value) (A : Around) (outer : List Env) (s : Shared) (H : Hp) (E : XK), Room k (A.deeper (envOfC qual (defScope st) s.heap.objs.size f cdv)) →
      ∃ t, PSs (cxOf CX0 P w K mg base (y :: N) qual (defScope st) f cdv A outer s H E).nox (defBody st) t ∧ ∀ p ds, pre ds → Run K [p] t (.sr p :: fr0 ds N.length) (fun _ => post ds .non) (post ds) (fun _ => False)) :
    FnOk P w K mg base CX0 (k + 1) f fd (y :: ps) (spS K pre post) := by
  refine F.ok Sc (fun vs H Q E h => ?_) fun cdv A outer s H vs Q E hr h => ?_
  · obtain ⟨_, p, ds, ws, rfl, _, _, _, _, _, d, hp, _⟩ := h
    rw [List.length_cons, DnA.len d, hl ds hp]
    rfl
  · obtain ⟨t, h1, h2⟩ := hb cdv A outer s H E hr
    exact ⟨t, h1, endS h h2⟩
end
/-! ### what is never reached -/
section
variable {X : Cx}
theorem pe_never {e : Expr} : PE X e (fun _ _ _ => False) := ⟨fun _ _ _ _ _ _ h => h.elim⟩
theorem ps_never {s : Stmt} : PS X s tNever := ⟨fun _ _ _ _ _ _ h => h.elim⟩
theorem pss_never {s : List Stmt} : PSs X s tNever := ⟨fun _ _ _ _ _ _ h => h.elim⟩
end
end Sb

set_option Elab.async false
set_option linter.all false
set_option maxRecDepth 100000
set_option autoImplicit false
namespace Sb
open PySem PySem.Spec PyProof.Rows L2

/-! ### defs that run where nothing is being shown (no repr is under way) -/
section
variable {P : Program} {w : World} {K : PySem.W.Frag} {mg : Str → Option Value} {base : Heap}
structure FnG (P : Program) (w : World) (K : PySem.W.Frag) (mg : Str → Option Value) (base : Heap)
    (k : Nat) (f : Addr) (fd : FuncData) (ps : List Str) (sp : Sp) : Prop where
  ln : ∀ vs H Q E, sp vs H Q E → vs.length = ps.length
  go : ∀ (A : Around) (outer : List Env) (s : Shared) (H : Hp) (ar : Args) (us : List Value) (vs : List V) (Q : VK) (E : XK),
    A.guards = some [] → Room k A → Env0 P w K mg base A outer s H → BindsTo s fd ar (ps.zip us) → Vals vs us →
    sp vs H Q E → codeAny (model P w) A (.call (.ref f) ar) (CR CX0 outer P w H s Q E) s
theorem FnG.of {k : Nat} {f : Addr} {fd : FuncData} {ps : List Str} {sp : Sp}
    (F : FnOk P w K mg base CX0 k f fd ps sp) : FnG P w K mg base k f fd ps sp :=
  ⟨F.len, fun A outer s H ar us vs Q E _ => F.run A outer s H ar us vs Q E⟩
theorem fun_okG {x qual : Str} {st : Stmt} {f : Addr} {fd : FuncData} {N ps : List Str} {k : Nat} {sp : Sp}
    (F : Fun K x qual st f fd) (Sc : FnScope N ps (defScope st)) (ln : ∀ vs H Q E, sp vs H Q E → vs.length = ps.length)
    (hbody : ∀ (cdv : Value) (A : Around) (outer : List Env) (s : Shared) (H : Hp) (vs : List V) (Q : VK) (E : XK),
      A.guards = some [] → Room k (A.deeper (envOfC qual (defScope st) s.heap.objs.size f cdv)) → sp vs H Q E →
      ∃ t, PSs (cxOf CX0 P w K mg base N qual (defScope st) f cdv A outer s H E).nox (defBody st) t ∧
        t { nx := fun _ H' => Q .non H', rt := Q } (L2.start N vs) H) : FnG P w K mg base (k + 1) f fd ps sp := by
  obtain ⟨oc, od, kV, doc, pm, an, cdv, ct, osl, rfl, lk, hcd⟩ := F.ex
  refine ⟨ln, fun A outer s H ar us vs Q E gd room e0 bnd rel want => ?_⟩
  have inK : K.In s.heap := e0.mod.kin.keeps fun b o q => (e0.bs b o q).1
  have nolim : s.heap.NoLimit := e0.mod.nolimit.keeps fun b o q => (e0.bs b o q).1
  refine codeAny_call_function room.depth (inK _ _ lk) rfl Sc.co Sc.gen rfl (PySem.W.codeRec_of inK hcd) (bnd _ _ _ _ ?_)
  refine wpAny_newFunctionEnv_cells Sc.kind (fun ⟨n, v⟩ hy => ?_) fun env he s1 xx => ?_
  · rcases Sc.par n (List.of_mem_zip hy).1 with q | q
    · left
      exact q
    · right
      exact ⟨q, PySem.W.cellsFrom_some _ _ _ (.inl q)⟩
  · subst he
    refine ⟨nolim.keeps xx.toInCall.keep, codeAny_func ?_⟩
    obtain ⟨t, ht, hq⟩ := hbody cdv A outer s H vs Q E gd (room.deeper _) want
    have I0 := inv_start (CX := CX0) (E := E) Sc room.hd e0 (ln _ _ _ _ want) rel xx
    refine wpAny_mono (ht.nox.run [] s1 (L2.start N vs) H _ I0 hq) (fun fl s2 hs => ?_) fun _ _ hs => hs
    cases fl with
    | ret u =>
      obtain ⟨v, σ2, H2, J, rv, q⟩ := hs
      exact ⟨v, H2, J.os, J.bare, J.base, J.hok, rv, q⟩
    | next =>
      obtain ⟨σ2, H2, J, q⟩ := hs
      exact ⟨V.non, H2, J.os, J.bare, J.base, J.hok, rfl, q⟩
    | brk =>
      obtain ⟨_, _, _, q⟩ := hs
      exact q.elim
    | cont =>
      obtain ⟨_, _, _, q⟩ := hs
      exact q.elim
theorem pe_callG {X : Cx} {k : Nat} {f : Addr} {fd : FuncData} {ps : List Str} {sp : Sp} {x : Str} {p pos : Pos} {e : Expr} {es : List Expr} {t : TA}
    (F : FnG X.prog X.w X.K X.mg X.base k f fd ps sp) (gd : X.A.guards = some []) (room : Room k X.A) (hg : Gl X x) (hm : X.mg x = some (.ref f))
    (kp : PySem.W.keepIn X.K (.ref f) = true) (hb : Binds X.K fd ps []) (ha : PA X (e :: es) t) (hdb : (x == ("__debug__" : Str)) = false := by decide)
    (he : starEach (e :: es) X.env = (false, eval e X.env) :: starEach es X.env := by rfl) (hpl : (backTo pos (starEach es X.env)).any (·.1) = false := by rfl) :
    PE X (.Call (.Name x p) (e :: es) [] pos) (tCall sp [] E0 t) := by
  refine ⟨fun pins s σ H Q I want => wpAny_Call_Name_kw (ld_glob I hg hm ?_ hdb)⟩
  refine PySem.W.callWith_K (h₀ := X.base) I.ok.mod.kin kp
    (thn (ha.run pos pins s σ H _ I want) fun us s1 ⟨vs, H1, I1, rel, q⟩ => ⟨I1.kIn, ?_⟩) he hpl
  have q2 : sp vs H1 Q E0 := by
    have q1 : sp (vs ++ []) H1 Q E0 := q
    rw [List.append_nil] at q1
    exact q1
  have hl : (us ++ ([] : List Value)).length = ps.length := by
    rw [List.append_nil, ← rel.length]
    exact F.ln _ _ _ _ q2
  have bd := hb s1 us I1.kIn hl
  rw [List.append_nil] at bd
  refine wpAny_call (codeAny_mono (F.go X.A X.stack s1 H1 ⟨us, []⟩ us vs Q E0 gd room I1.env0 bd rel q2) fun r s2 hq => ?_)
  cases r with
  | error z => exact (show False from hq).elim
  | ok fl =>
    cases fl with
    | ret u => exact I1.after hq
    | next => exact (show False from hq).elim
    | brk => exact (show False from hq).elim
    | cont => exact (show False from hq).elim
end

/-! ### the law's own call -/
theorem lawG {P : Program} {w : World} {K : PySem.W.Frag} {mg mb : Str → Option Value} {k : Nat} {fa a : Addr} {fd : FuncData} {x : Str} {sp : Sp}
    {s1 : Shared} {vs : List Value} {ns : List Int} (KX : K.In s1.heap) (hns : s1.heap.Ns mainGlobals mg) (hb : s1.heap.Ns builtinsNs mb)
    (hbb : ∀ x : Str, x ≠ "__name__" → mb x = bootBuiltins x) (lim : s1.heap.NoLimit) (gens : s1.gens = #[])
    (ha : s1.heap.get? a = some { cls := .type "list", data := .seq vs.toArray }) (hi : IntsAre vs ns) (hl : ns.length ≤ sizeLine) (room : Room k callerA)
    (F : ∀ base : Heap, K.In base → base.Ns mainGlobals mg → FnG P w K mg base k fa fd [x] sp)
    (bnd : ∀ (s : Shared) (u : Value), BindsTo s fd ⟨[u], []⟩ [(x, u)])
    (want : ∀ H : Hp, Only H → SqL K H a (ns.map V.int) → sp [.ref a] H (fun v _ => v = .bl true) fun _ _ _ => False) :
    codeAny (model P w) callerA (.call (.ref fa) ⟨[.ref a], []⟩)
      (fun r s2 => r = .ok (.ret (.bool true)) ∧ OldK s1.heap s2.heap ∧ s2.os = s1.os ∧ AllBare s2.gens) s1 := by
  have rv := vals_ints hi
  have lenV := hi.length
  have main : ∀ H : Hp, Only H → SqL K H a (ns.map V.int) → HOk P w H s1.heap → (∀ b, H b ≠ none → b = a) → (H a ≠ none → K.lookup a = none) →
      codeAny (model P w) callerA (.call (.ref fa) ⟨[.ref a], []⟩)
        (fun r s2 => r = .ok (.ret (.bool true)) ∧ OldK s1.heap s2.heap ∧ s2.os = s1.os ∧ AllBare s2.gens) s1 := by
    intro H hO hS hok hA hK
    have free : ∀ {b : Addr} {o : Obj} {es : Array DictEntry} {ep : Nat}, s1.heap.get? b = some o → o.data = .dict es ep → H b = none := by
      intro b o es ep q d
      cases z : H b with
      | none => rfl
      | some u =>
        have ba : b = a := hA b (by rw [z]; simp)
        rw [ba, ha] at q
        cases q
        have d2 : Data.seq vs.toArray _ = Data.dict es ep := d
        cases d2
    have ns2 : ∀ {b : Addr} {m : Str → Option Value}, s1.heap.Ns b m → (hidT s1.heap H).Ns b m := by
      rintro b m ⟨o, es, ep, q, d, r⟩
      exact ⟨o, es, ep, hidT_get q (free q d), d, r⟩
    have kb : K.In (hidT s1.heap H) := by
      intro b o q
      refine hidT_get (KX b o q) ?_
      cases z : H b with
      | none => rfl
      | some u =>
        have ba : b = a := hA b (by rw [z]; simp)
        rw [ba] at z q
        rw [hK (by rw [z]; simp)] at q
        cases q
    have lim2 : (hidT s1.heap H).NoLimit := by
      obtain ⟨mc, q1, q2⟩ := lim
      exact ⟨mc, ns2 q1, q2⟩
    have e0 : Env0 P w K mg (hidT s1.heap H) callerA [] s1 H :=
      { frames := rfl
        mod := ⟨kb, ns2 hns, ⟨mb, ns2 hb, hbb⟩, lim2⟩
        bs := fun b o q => of_hidT q
        bsz := Nat.le_of_eq (hidT_size _ _)
        funs := trivial
        frf := fun b hb => absurd (show b ∈ ([] : List Addr) from hb) (by simp)
        hok := hok
        bare := .of_eq gens }
    refine codeAny_mono ((F _ kb (ns2 hns)).go callerA [] s1 H ⟨[.ref a], []⟩ [.ref a] [.ref a] _ _ rfl room e0
      (bnd s1 (.ref a)) (.cons rfl .nil) (want H hO hS)) fun r s2 h => ?_
    cases r with
    | error z => exact (show False from h).elim
    | ok fl =>
      cases fl with
      | next => exact (show False from h).elim
      | brk => exact (show False from h).elim
      | cont => exact (show False from h).elim
      | ret u =>
        obtain ⟨v, H2, os, bare, un, hok2, rel, q⟩ := h
        have q1 : v = .bl true := q
        subst q1
        obtain rfl : u = Value.bool true := rel
        refine ⟨rfl, OldK.of_keep fun b o z => ?_, os, bare⟩
        cases y : H b with
        | none => exact un.keep b o z y (fun m => absurd (show b ∈ ([] : List Addr) from m) (by simp)) (by simp)
        | some u =>
          rcases hO b with n | ⟨ob, xs, n⟩
          · rw [y] at n
            cases n
          · have n2 := un.frzs b ob _ n
            have i1 := (hok b _ n).1
            have i2 := (hok2 b _ n2).1
            rw [z] at i1
            cases i1
            exact i2
  cases hk : K.lookup a with
  | some o =>
    have q := KX a o hk
    rw [ha] at q
    cases q
    have inR : SqL K (fun _ => none) a (ns.map V.int) :=
      .inr ⟨_, vs.toArray, _, hk, rfl, rfl, rfl, by rw [List.size_toArray, lenV]; exact hl, by simpa using rv⟩
    exact main (fun _ => none) (fun _ => .inl rfl) inR (fun b u z => nomatch (show (none : Option HO) = some u from z))
      (fun b z => absurd rfl z) fun z => absurd rfl z
  | none =>
    have at1 : (fun b => if b = a then some (HO.frz { cls := .type "list", data := .seq vs.toArray } (.lst (ns.map V.int))) else none : Hp) a
        = some (HO.frz { cls := .type "list", data := .seq vs.toArray } (.lst (ns.map V.int))) := if_pos rfl
    refine main (fun b => if b = a then some (HO.frz { cls := .type "list", data := .seq vs.toArray } (.lst (ns.map V.int))) else none)
      (fun b => ?_) (.inl (.inr ⟨_, at1⟩)) (fun b u z => ?_) (fun b z => ?_) fun _ => hk
    · by_cases hb : b = a
      · right
        exact ⟨_, _, if_pos hb⟩
      · left
        exact if_neg hb
    · by_cases hb : b = a
      · have z2 := (if_pos hb).symm.trans z
        cases z2
        rw [hb]
        exact ⟨ha, by rw [List.length_map]; exact hl, vs, _, rv, ha⟩
      · have z2 := (if_neg hb).symm.trans z
        cases z2
    · by_cases hb : b = a
      · exact hb
      · exact absurd (if_neg hb) z
theorem walkG {l : PySem.W.OpenLaw} {n k : Nat} {q : Program} {loose : List Str} {XP : (Str → Option Value) → Heap → Prop} {YP : World → Heap → Prop}
    {d : DefRec} {K : Params → PySem.W.Frag} {sp : PySem.W.Frag → Sp} {x : Str} (hn : l.most = some n) (hn2 : n ≤ sizeLine) (hdf : d.params.defaults = [])
    (room : Room k callerA) (hY : ∀ (w : World) (h : Heap), YP w h → (K w.params).In h)
    (F : ∀ (w : World) (mg : Str → Option Value) (fa : Addr) (h : Heap), (K w.params).In h → h.Ns mainGlobals mg → mg d.name = some (.ref fa) →
      ∃ fd : FuncData, (∀ (s : Shared) (u : Value), BindsTo s fd ⟨[u], []⟩ [(x, u)]) ∧
        ∀ base : Heap, (K w.params).In base → base.Ns mainGlobals mg → FnG l.prog w (K w.params) mg base k fa fd [x] (sp (K w.params)))
    (want : ∀ (K : PySem.W.Frag) (H : Hp) (a : Addr) (ns : List Int), ns.length ≤ n → Only H → SqL K H a (ns.map V.int) →
      sp K [.ref a] H (fun v _ => v = .bl true) fun _ _ _ => False) :
    PySem.W.WalkO q loose XP YP l.row.toRowW d [] (fun f vs => PySem.call f vs) := by
  refine Att.attach_call hn hdf fun w s0 s1 mg mb fa o pm cd doc a vs ns Gr Y ho hd hcd hmg hobj hints hlen hg => ?_
  have KX := hY w _ Y
  obtain ⟨fd, hb, hF⟩ := F w mg fa _ KX Gr.T.g hmg
  exact lawG KX Gr.T.g Gr.T.b Gr.T.builtins Gr.T.nolimit hg hobj hints (Nat.le_trans hlen hn2) room hF hb
    fun H hO hS => want _ H a ns hlen hO hS

/-! ### repr -/
mutual
def Dt.py : Dt → PyData
  | .non => .none
  | .bl b => .bool b
  | .int i => .int i
  | .str x => .str x
  | .lst ds => .list (pyA ds)
  | .tup ds => .tuple (pyA ds)
  | .dic _ => .none
  | .dii _ => .none
  | .obj _ _ => .none
def pyA : List Dt → List PyData
  | [] => []
  | d :: ds => d.py :: pyA ds
end
mutual
def Dt.plain : Dt → Bool
  | .lst ds => plainA ds
  | .tup ds => plainA ds
  | .dic _ => false
  | .dii _ => false
  | .obj _ _ => false
  | _ => true
def plainA : List Dt → Bool
  | [] => true
  | d :: ds => d.plain && plainA ds
end
mutual
theorem dp_of {K : PySem.W.Frag} {H : Hp} : ∀ (d : Dt) {v : V}, d.plain = true → Dn K H d v → Dp K H v d.py
  | .non, _, _, h => by cases (show _ = _ from h); exact .non
  | .bl b, _, _, h => by cases (show _ = _ from h); exact .bl b
  | .int b, _, _, h => by cases (show _ = _ from h); exact .int b
  | .str b, _, _, h => by cases (show _ = _ from h); exact .str b
  | .lst ds, _, p, h => by
    obtain ⟨a, xs, rfl, h1, h2⟩ := h
    exact .lst (SqL.of h1) (dpA_of ds p h2)
  | .tup ds, _, p, h => by
    obtain ⟨a, xs, rfl, h1, h2⟩ := h
    exact .tup h1 (dpA_of ds p h2)
  | .dic _, _, p, _ => by cases p
  | .dii _, _, p, _ => by cases p
  | .obj _ _, _, p, _ => by cases p
theorem dpA_of {K : PySem.W.Frag} {H : Hp} : ∀ (d : List Dt) {v : List V}, plainA d = true → DnA K H d v → DpAll K H v (pyA d)
  | [], _, _, h => by cases (show _ = [] from h); exact .nil
  | d :: ds, _, p, h => by
    obtain ⟨v, r, rfl, h1, h2⟩ := h
    have p' : (d.plain && plainA ds) = true := p
    rw [Bool.and_eq_true] at p'
    exact .cons (dp_of d p'.1 h1) (dpA_of ds p'.2 h2)
end
def rRepr (K : PySem.W.Frag) : List V → Hp → VK → Prop := fun xs H Q =>
  ∃ v d, xs = [v] ∧ Dp K H v d ∧ d.showable = true ∧ d.hasDict = false ∧ d.depth ≤ 50 ∧ d.shown.length ≤ sizeLine ∧ Q (.str d.shown) H
theorem call_reprD {X : Cx} (gd : X.A.guards = some []) (hu : X.A.units + 64 < cLine) : CallR X (.builtin "repr") (rRepr X.K) := by
  intro pins s σ H xs us Q I r h
  obtain ⟨v, d, rfl, dp, sh, nd, dd, sz, q⟩ := h
  obtain ⟨u, rfl, r1⟩ := vals1 r
  obtain ⟨as, rd⟩ := Dp.reads I d v u dp r1
  have fin : ∀ h' tk, (∀ b o, s.heap.get? b = some o → h'.get? b = some o) → ∀ t, EP X pins σ Q (.str d.shown t) { s with heap := h', toks := tk } :=
    fun h' tk kp t => ⟨.str d.shown, H, I.kept kp, ⟨t, rfl⟩, q⟩
  have here : ∀ tk t, EP X pins σ Q (.str d.shown t) { s with toks := tk } := fun tk t => fin s.heap tk (fun _ _ z => z) t
  cases dp with
  | non =>
    cases (show u = Value.none from r1)
    exact PySem.P.repr_of_none (here _ _)
  | bl b =>
    cases (show u = Value.bool b from r1)
    exact PySem.P.repr_of_bool (by
      have := here (s.toks + 1) s.toks
      cases b <;> exact this)
  | int i =>
    obtain ⟨t, e⟩ := (show ∃ t, u = Value.int i t from r1)
    subst e
    have sh' : decide (i.natAbs.log2 < 1920) = true := sh
    exact PySem.P.repr_of_int (of_decide_eq_true sh') (here _ _)
  | str x =>
    obtain ⟨t, e⟩ := (show ∃ t, u = Value.str x t from r1)
    subst e
    exact PySem.P.repr_of_str (here _ _) sz
  | lst h1 h2 =>
    cases (show u = Value.ref _ from r1)
    exact repr_of_reads' rd sh (PyData.noDict_hsm nd) gd (by omega) (fun _ _ z => z) (fun h' u tk kp => fin h' tk kp u) sz
  | tup h1 h2 =>
    cases (show u = Value.ref _ from r1)
    exact repr_of_reads' rd sh (PyData.noDict_hsm nd) gd (by omega) (fun _ _ z => z) (fun h' u tk kp => fin h' tk kp u) sz
end Sb

set_option Elab.async false
set_option linter.all false
set_option maxRecDepth 100000
set_option autoImplicit false
namespace Sb
open PySem PySem.Spec PyProof.Rows L2
variable {K : KX} {S : List Addr} {G : List Sl}

/-! ### rules that leave the kinds of their operands open -/
section
variable {X : Cx}
def rSta : R2 := fun x y H Q => ∃ i j, x = .str i ∧ y = .str j ∧ i.length + j.length ≤ sizeLine ∧ Q (.str (i ++ j)) H
def rAddI : R2 := rI0 fun i j => .int (i + j)
def rAddA (K : PySem.W.Frag) : R2 := fun x y H Q => rAddI x y H Q ∨ (rSta x y H Q ∨ (rCat x y H Q ∨ rCatT K x y H Q))
theorem op_addA : OpR X (binaryOp .Add) (rAddA X.K) := OpR.or op_add (OpR.or op_add_str (OpR.or op_cat op_catT))
def rInA (K : PySem.W.Frag) : R2 := fun x y H Q => rIn K false x y H Q ∨ rInS x y H Q
def rNiA (K : PySem.W.Frag) : R2 := fun x y H Q => rIn K true x y H Q ∨ rNotInS x y H Q
theorem op_inA : OpR X (compareOp .In) (rInA X.K) := OpR.or op_in_seq op_inS
theorem op_niA : OpR X (compareOp .NotIn) (rNiA X.K) := OpR.or op_notIn_seq op_notInS
theorem ixr_or {r r' : R2} (h : IxR X r) (h' : IxR X r') : IxR X (fun x y H Q => r x y H Q ∨ r' x y H Q) := by
  intro value slice pins s σ H x y v u Q I rx ry q e
  rcases q with q | q
  · exact h value slice pins s σ H x y v u Q I rx ry q e
  · exact h' value slice pins s σ H x y v u Q I rx ry q e
def rIxA (K : PySem.W.Frag) : R2 := fun x y H Q => rIxL K x y H Q ∨ (rIxT K x y H Q ∨ rIxS x y H Q)
theorem ix_any : IxR X (rIxA X.K) := ixr_or ix_list (ixr_or ix_tup ix_str)
def rSlA (K : PySem.W.Frag) : V → Option Int → Option Int → Hp → VK → Prop := fun x lo hi H Q => rSlL K x lo hi H Q ∨ (rSlT K x lo hi H Q ∨ rSlS x lo hi H Q)
theorem sl_any : SlR X (rSlA X.K) := SlR.or sl_list (SlR.or sl_tup sl_str)
theorem callr_or {f : Value} {r r' : List V → Hp → VK → Prop} (h : CallR X f r) (h' : CallR X f r') : CallR X f (fun xs H Q => r xs H Q ∨ r' xs H Q) := by
  intro pins s σ H xs us Q I rs q
  rcases q with q | q
  · exact h pins s σ H xs us Q I rs q
  · exact h' pins s σ H xs us Q I rs q
def rStrI : List V → Hp → VK → Prop := fun xs H Q => ∃ i, xs = [.int i] ∧ i.natAbs.log2 < 1920 ∧ Q (.str (toString i)) H
def rStrS : List V → Hp → VK → Prop := fun xs H Q => ∃ a, xs = [.str a] ∧ Q (.str a) H
def rStrA : List V → Hp → VK → Prop := fun xs H Q => rStrI xs H Q ∨ rStrS xs H Q
theorem call_strS : CallR X (.type "str") rStrS := by
  intro pins s σ H xs us Q I r h
  obtain ⟨a, rfl, q⟩ := h
  obtain ⟨u, rfl, t, rfl⟩ := vals1 r
  exact PySem.P.str_of_str ⟨.str a, H, I, ⟨t, rfl⟩, q⟩
theorem call_strA : CallR X (.type "str") rStrA := callr_or call_str_int call_strS
def rIntI : List V → Hp → VK → Prop := fun xs H Q => (∃ i, xs = [.int i] ∧ Q (.int i) H) ∨ ∃ k, xs = [.bl k] ∧ Q (.int (if k then 1 else 0)) H
def rIntS : List V → Hp → VK → Prop := fun xs H Q => ∃ a n, xs = [.str a] ∧ PySem.intText? a = some n ∧ a.length ≤ 640 ∧ Q (.int n) H
def rIntA : List V → Hp → VK → Prop := fun xs H Q => rIntI xs H Q ∨ rIntS xs H Q
theorem call_intA : CallR X (.type "int") rIntA := callr_or call_int1 call_int_str
def rLenA (K : PySem.W.Frag) : List V → Hp → VK → Prop := fun xs H Q => ∃ x n, xs = [x] ∧ LenV K x H n ∧ Q (.int n) H
theorem call_lenA : CallR X (.builtin "len") (rLenA X.K) := call_len
def rTupA (K : PySem.W.Frag) : List V → Hp → VK → Prop := fun xs H Q => ∃ p ys, xs = [.ref p] ∧ ((SqL K H p ys ∧ ∀ l, H l = none → Q (.ref l) (upd H l (.tup ys))) ∨ (SqT K H p ys ∧ Q (.ref p) H))
theorem call_tupA : CallR X (.type "tuple") (rTupA X.K) := call_tuple_of
def rLstA (K : PySem.W.Frag) : List V → Hp → VK → Prop := fun xs H Q => ∃ p ys, xs = [.ref p] ∧ (SqL K H p ys ∨ SqT K H p ys) ∧ ∀ l, H l = none → Q (.ref l) (upd H l (.lst ys))
theorem call_lstA : CallR X (.type "list") (rLstA X.K) := call_list_of
/-- what a for walks: a list, a tuple or a text -/
def iAny (K : PySem.W.Frag) (tl : TE) : TI := fun σ H R => tl σ H fun x H1 => (∃ a, x = .ref a ∧ (∃ xs, SqL K H1 a xs) ∧ R (Itl K a) H1) ∨ ((∃ a, x = .ref a ∧ (∃ xs, SqT K H1 a xs) ∧ R (Itt K a) H1) ∨ ∃ z, x = .str z ∧ R (Its z) H1)
theorem pi_any {tg l : Expr} {tl : TE} (hl : PE X l tl) : PI X tg l (iAny X.K tl) := by
  refine ⟨fun pins s σ H R I h => ?_⟩
  refine thn (hl.run pins s σ H _ I h) fun v s1 ⟨x, H1, I1, r1, q1⟩ => ?_
  rcases q1 with ⟨a, rfl, ⟨xs, hq⟩, q⟩ | ⟨a, rfl, ⟨xs, hq⟩, q⟩ | ⟨z, rfl, q⟩
  · cases r1
    obtain ⟨its, rv, p, hz⟩ := I1.list hq
    exact wpAny_pyIter_list p.isList (pi_one (tk := s1.toks) I1 _ (turn_list a _) ⟨_, Heap.get?_push_size _ rfl, rfl, rfl⟩ q)
  · cases r1
    obtain ⟨its, rv, p, hz⟩ := I1.tuple hq
    exact wpAny_pyIter_tuple (show s1.heap.IsTuple a its.toArray from p) (pi_one (tk := s1.toks) I1 _ (turn_tuple a _) ⟨_, Heap.get?_push_size _ rfl, rfl, rfl⟩ q)
  · obtain ⟨t, rfl⟩ := r1
    cases ha : z.cps.all (· < 128)
    · exact wpAny_pyIter_wide ha (pi_one (tk := s1.toks) I1 _ (turn_str _ z t "str_iterator" (.inr rfl)) ⟨_, Heap.get?_push_size _ rfl, rfl, rfl⟩ q)
    · exact wpAny_pyIter_ascii ha (pi_one (tk := s1.toks) I1 _ (turn_str _ z t "str_ascii_iterator" (.inl rfl)) ⟨_, Heap.get?_push_size _ rfl, rfl, rfl⟩ q)
end

/-! ### their readings on data -/
def Dt.items : Dt → Option (List Dt)
  | .lst ds => some ds
  | .tup ds => some ds
  | .str x => some (sgs x)
  | _ => none
theorem wkJ_list {Bx : Hp} {a : Addr} {xs : List V} {ds : List Dt} (s1 : Bx a = some (.lst xs)) (s2 : DnA K Bx ds xs) : WkJ K Bx (Itl K a) ds where
  go := fun i H e hi => by
    have hl := DnA.len s2
    exact ⟨xs, xs[i]'(by omega), SqL.of (e _ _ s1 nt_lst), List.getElem?_eq_getElem _⟩
  stop := fun H e => ⟨xs, SqL.of (e _ _ s1 nt_lst), by rw [DnA.len s2]; exact Nat.le_refl _⟩
  yld := fun i H x H' d e hi y => by
    obtain ⟨rfl, y⟩ := y
    obtain ⟨v, q1, q2⟩ := DnA.get s2 hi
    have := y xs (SqL.of (e _ _ s1 nt_lst))
    rw [q1] at this
    cases this
    exact ⟨Ex.refl _, fun P _ eb => Dn.mono eb d q2⟩
theorem wkJ_tup {Bx : Hp} {a : Addr} {xs : List V} {ds : List Dt} (s1 : SqT K Bx a xs) (s2 : DnA K Bx ds xs) : WkJ K Bx (Itt K a) ds where
  go := fun i H e hi => by
    have hl := DnA.len s2
    exact ⟨xs, xs[i]'(by omega), e.sqT s1, List.getElem?_eq_getElem _⟩
  stop := fun H e => ⟨xs, e.sqT s1, by rw [DnA.len s2]; exact Nat.le_refl _⟩
  yld := fun i H x H' d e hi y => by
    obtain ⟨rfl, y⟩ := y
    obtain ⟨v, q1, q2⟩ := DnA.get s2 hi
    have := y xs (e.sqT s1)
    rw [q1] at this
    cases this
    exact ⟨Ex.refl _, fun P _ eb => Dn.mono eb d q2⟩
theorem wkJ_str {Bx : Hp} {x : Str} : WkJ K Bx (Its x) (sgs x) := by
  have hl : (sgs x).length = x.cps.size := by unfold sgs; rw [List.length_map, Array.length_toList]
  refine ⟨fun i H' e hi => ?_, fun H' e => ?_, fun i H' y H'' d e hi q => ?_⟩
  · rw [hl] at hi; exact hi
  · rw [hl]; exact Nat.le_refl _
  · obtain ⟨rfl, c, hc, rfl⟩ := q
    unfold sgs at hi
    rw [List.getElem?_map, Array.getElem?_toList, hc] at hi
    cases hi
    exact ⟨Ex.refl _, fun P _ _ => rfl⟩
theorem wk_any {tl : TE} {p : List Dt → Prop} (h : Eg K S G tl (fun d => ∃ ds, d.items = some ds ∧ p ds)) : Wk K S G (iAny K tl) p := fun B O σ H hh R k =>
  h B O σ H hh _ fun v H1 d hd h1 g1 d1 => by
    obtain ⟨ds, hi, hp⟩ := hd
    cases d with
    | lst xs =>
      cases hi
      obtain ⟨a, ys, rfl, s1, s2⟩ := d1
      exact .inl ⟨a, rfl, ⟨ys, SqL.of (hid_ex _ _ _ s1)⟩, k _ _ _ hp h1 g1 (wkJ_list s1 s2)⟩
    | tup xs =>
      cases hi
      obtain ⟨a, ys, rfl, s1, s2⟩ := d1
      exact .inr (.inl ⟨a, rfl, ⟨ys, (hid_ex _).sqT s1⟩, k _ _ _ hp h1 g1 (wkJ_tup s1 s2)⟩)
    | str x =>
      cases hi
      exact .inr (.inr ⟨x, d1, k _ _ _ hp h1 g1 wkJ_str⟩)
    | non => cases hi
    | bl _ => cases hi
    | int _ => cases hi
    | dic _ => cases hi
    | dii _ => cases hi
    | obj _ _ => cases hi
theorem wk_any1 {tl : TE} {d : Dt} {ds : List Dt} (h : Eg K S G tl (· = d)) (hi : d.items = some ds) : Wk K S G (iAny K tl) (· = ds) := wk_any (eg_imp h fun _ e => ⟨ds, by rw [e]; exact hi, rfl⟩)
theorem wk_range1 {ta : TA} {n : Int} (h : Ea K S G ta (· = [.int n])) (h1 : -(2 ^ 62) ≤ n) (h2 : n < 2 ^ 62) : Wk K S G (iRng1 ta) (· = rng 0 n.toNat) := wk_rng1 fun B O σ H hh Q k => h B O σ H hh Q fun vs H' ds e => k vs H' ds ⟨n, e, h1, h2, rfl⟩
/-! #### operators -/
theorem r2_addI {i j : Int} {pz : Dt → Prop} (h : pz (.int (i + j))) : R2v K (rAddA K) (.int i) (.int j) pz := fun P H v w Q t d1 d2 k => .inl ⟨i, j, d1, d2, rv_out k h rfl⟩
theorem r2_addS {i j : Str} {pz : Dt → Prop} (hl : i.length + j.length ≤ 100000) (h : pz (.str (i ++ j))) : R2v K (rAddA K) (.str i) (.str j) pz := fun P H v w Q t d1 d2 k => .inr (.inl ⟨i, j, d1, d2, Nat.le_trans hl (by decide), rv_out k h rfl⟩)
theorem r2_addL {i j : List Dt} {pz : Dt → Prop} (hl : i.length + j.length ≤ 100000) (h : pz (.lst (i ++ j))) : R2v K (rAddA K) (.lst i) (.lst j) pz := fun P H v w Q t d1 d2 k => .inr (.inr (.inl (by
  obtain ⟨a, xs, rfl, h1, h2⟩ := d1
  obtain ⟨b, ys, rfl, h3, h4⟩ := d2
  refine ⟨a, b, xs, ys, rfl, rfl, hid_ex _ _ _ h1, hid_ex _ _ _ h3, by rw [DnA.len h2, DnA.len h4]; exact Nat.le_trans hl (by decide), fun p hp => k _ _ _ h (new_ex hp) (new_lst t hp (DnA.app h2 h4))⟩)))
theorem r2_addT {i j : List Dt} {pz : Dt → Prop} (hi : i ≠ []) (hj : j ≠ []) (hl : i.length + j.length ≤ 100000) (h : pz (.tup (i ++ j))) : R2v K (rAddA K) (.tup i) (.tup j) pz := fun P H v w Q t d1 d2 k => .inr (.inr (.inr (by
  obtain ⟨a, xs, rfl, h1, h2⟩ := d1
  obtain ⟨b, ys, rfl, h3, h4⟩ := d2
  have n1 : xs ≠ [] := fun z => hi (by have := DnA.len h2; rw [z] at this; exact List.length_eq_zero_iff.mp this.symm)
  have n2 : ys ≠ [] := fun z => hj (by have := DnA.len h4; rw [z] at this; exact List.length_eq_zero_iff.mp this.symm)
  exact ⟨a, b, xs, ys, rfl, rfl, (hid_ex _).sqT h1, (hid_ex _).sqT h3, n1, by rw [DnA.len h2, DnA.len h4]; exact Nat.le_trans hl (by decide), fun z => absurd z n2, fun _ p hp => k _ _ _ h (new_ex hp) (new_tup t hp (DnA.app h2 h4))⟩)))
theorem r2_inA {x : Dt} {ds : List Dt} {u : V} {us : List V} {pz : Dt → Prop} (tup : Bool) (hx : x.v? = some u) (hy : ds.map Dt.v? = us.map some) (fx : flatV u = true) (fy : us.all flatV = true) (h : pz (.bl (inV u us))) :
    R2v K (rInA K) x (if tup then .tup ds else .lst ds) pz := fun P H v w Q t d1 d2 k => .inl (r2_in (neg := false) tup hx hy fx fy h P H v w Q t d1 d2 k)
theorem r2_niA {x : Dt} {ds : List Dt} {u : V} {us : List V} {pz : Dt → Prop} (tup : Bool) (hx : x.v? = some u) (hy : ds.map Dt.v? = us.map some) (fx : flatV u = true) (fy : us.all flatV = true) (h : pz (.bl (!inV u us))) :
    R2v K (rNiA K) x (if tup then .tup ds else .lst ds) pz := fun P H v w Q t d1 d2 k => .inl (r2_in (neg := true) tup hx hy fx fy h P H v w Q t d1 d2 k)
theorem r2_inSg {c : Nat} {z : Str} {pz : Dt → Prop} (h : pz (.bl (decide (c ∈ z.cps.toList)))) : R2v K (rInA K) (.str ⟨#[c]⟩) (.str z) pz := fun P H v w Q _ d1 d2 k => .inr ⟨c, z, d1, d2, rv_out k h rfl⟩
theorem r2_niSg {c : Nat} {z : Str} {pz : Dt → Prop} (h : pz (.bl (!decide (c ∈ z.cps.toList)))) : R2v K (rNiA K) (.str ⟨#[c]⟩) (.str z) pz := fun P H v w Q _ d1 d2 k => .inr ⟨c, z, d1, d2, rv_out k h rfl⟩
theorem r2_ixAL {ds : List Dt} {i : Int} {d : Dt} {pz : Dt → Prop} (e : atI ds i = some d) (h : pz d) : R2v K (rIxA K) (.lst ds) (.int i) pz := fun P H v w Q t d1 d2 k => .inl (r2_ixL e h P H v w Q t d1 d2 k)
theorem r2_ixAT {ds : List Dt} {i : Int} {d : Dt} {pz : Dt → Prop} (e : atI ds i = some d) (h : pz d) : R2v K (rIxA K) (.tup ds) (.int i) pz := fun P H v w Q t d1 d2 k => .inr (.inl (r2_ixT e h P H v w Q t d1 d2 k))
theorem r2_ixAS {z : Str} {i : Int} {c : Nat} {pz : Dt → Prop} (hz : z.length ≤ 100000) (e : atI z.cps.toList i = some c) (h : pz (.str ⟨#[c]⟩)) : R2v K (rIxA K) (.str z) (.int i) pz := fun P H v w Q t d1 d2 k => .inr (.inr (r2_ixS hz e h P H v w Q t d1 d2 k))
/-! #### slices -/
def cutD (ds : List Dt) (lo hi : Option Int) : List Dt := (ds.drop (HT.sIx ds.length 0 lo)).take (HT.sIx ds.length ds.length hi - HT.sIx ds.length 0 lo)
theorem cut_dn {H : Hp} {ds : List Dt} {xs : List V} (lo hi : Option Int) (h : DnA K H ds xs) : DnA K H (cutD ds lo hi) (cutV xs lo hi) := by
  unfold cutD cutV
  rw [DnA.len h]
  exact DnA.tk _ (DnA.dp _ h)
def Eo (K : KX) (S : List Addr) (G : List Sl) (to : TO) (o : Option Int) : Prop := ∀ B O σ H, Hold K B S O G H σ → ∀ Q : Option Int → Hp → Prop, (∀ H', Hold K B S O G H' σ → Gr (pof O G) H H' → Q o H') → to σ H Q
theorem eo_none : Eo K S G tNoPart none := fun B O σ H hh Q k => k H hh (Gr.refl _ _)
theorem eo_some {te : TE} {i : Int} (h : Eg K S G te (· = .int i)) : Eo K S G (tPart te) (some i) := fun B O σ H hh Q k => h B O σ H hh _ fun v H' d hd h1 g1 d1 => by
  subst hd
  exact ⟨i, d1, k H' h1 g1⟩
theorem eg_slL {te : TE} {tl th : TO} {ds : List Dt} {lo hi : Option Int} (h : Eg K S G te (· = .lst ds)) (h1 : Eo K S G tl lo) (h2 : Eo K S G th hi) : Eg K S G (tSl (rSlA K) te tl th) (· = .lst (cutD ds lo hi)) := fun B O σ H hh Q k =>
  h B O σ H hh _ fun v H1 d hd hh1 g1 d1 => h1 B O σ H1 hh1 _ fun H2 hh2 g2 => h2 B O σ H2 hh2 _ fun H3 hh3 g3 => by
    subst hd
    obtain ⟨a, xs, rfl, e1, e2⟩ := Dn.mono (g2.trans g3) _ d1
    exact .inl ⟨a, xs, rfl, SqL.of (hid_ex _ _ _ e1), fun p hp => k _ _ _ rfl (hh3.more (new_ex hp)) ((g1.trans (g2.trans g3)).trans (hid_new hp)) (new_lst hh3.trk hp (cut_dn lo hi e2))⟩
theorem eg_slT {te : TE} {tl th : TO} {ds : List Dt} {lo hi : Option Int} (h : Eg K S G te (· = .tup ds)) (h1 : Eo K S G tl lo) (h2 : Eo K S G th hi) (hw : ¬ (HT.sIx ds.length 0 lo = 0 ∧ HT.sIx ds.length ds.length hi = ds.length)) : Eg K S G (tSl (rSlA K) te tl th) (· = .tup (cutD ds lo hi)) := fun B O σ H hh Q k =>
  h B O σ H hh _ fun v H1 d hd hh1 g1 d1 => h1 B O σ H1 hh1 _ fun H2 hh2 g2 => h2 B O σ H2 hh2 _ fun H3 hh3 g3 => by
    subst hd
    obtain ⟨a, xs, rfl, e1, e2⟩ := Dn.mono (g2.trans g3) _ d1
    exact .inr (.inl ⟨a, xs, rfl, (hid_ex _).sqT e1, by rw [DnA.len e2]; exact hw, fun p hp => k _ _ _ rfl (hh3.more (new_ex hp)) ((g1.trans (g2.trans g3)).trans (hid_new hp)) (new_tup hh3.trk hp (cut_dn lo hi e2))⟩)
theorem eg_slS {te : TE} {tl th : TO} {z : Str} {lo hi : Option Int} (h : Eg K S G te (· = .str z)) (h1 : Eo K S G tl lo) (h2 : Eo K S G th hi) (hz : z.length ≤ 100000) : Eg K S G (tSl (rSlA K) te tl th) (· = .str (cutS z lo hi)) := fun B O σ H hh Q k =>
  h B O σ H hh _ fun v H1 d hd hh1 g1 d1 => h1 B O σ H1 hh1 _ fun H2 hh2 g2 => h2 B O σ H2 hh2 _ fun H3 hh3 g3 => by
    subst hd
    exact .inr (.inr ⟨z, d1, Nat.le_trans hz (by decide), k _ _ _ rfl hh3 (g1.trans (g2.trans g3)) rfl⟩)
/-! #### calls of built-ins -/
def Dt.len? : Dt → Option Nat
  | .str x => some x.length
  | .lst ds => some ds.length
  | .tup ds => some ds.length
  | _ => none
theorem rc_len {d : Dt} {n : Nat} {pz : Dt → Prop} (e : d.len? = some n) (hn : n ≤ 100000) (h : pz (.int (n : Int))) : Rcv K (rLenA K) [d] pz := fun P H vs Q t dn k => by
  obtain ⟨v, r, rfl, d1, d2⟩ := dn
  cases (show r = [] from d2)
  cases d with
  | str x =>
    cases e
    cases (show v = _ from d1)
    exact ⟨_, _, rfl, ⟨Nat.le_trans hn (by decide), rfl⟩, rv_out k h rfl⟩
  | lst ds =>
    cases e
    obtain ⟨a, xs, rfl, e1, e2⟩ := d1
    exact ⟨_, ds.length, rfl, .inl ⟨xs, SqL.of (hid_ex _ _ _ e1), (DnA.len e2).symm⟩, rv_out k h rfl⟩
  | tup ds =>
    cases e
    obtain ⟨a, xs, rfl, e1, e2⟩ := d1
    exact ⟨_, ds.length, rfl, .inr ⟨xs, (hid_ex _).sqT e1, (DnA.len e2).symm⟩, rv_out k h rfl⟩
  | non => cases e
  | bl _ => cases e
  | int _ => cases e
  | dic _ => cases e
  | dii _ => cases e
  | obj _ _ => cases e
theorem rc_all {bs : List Bool} {pz : Dt → Prop} (h : pz (.bl (bs.all id))) : Rcv K (rAll K) [.lst (bs.map Dt.bl)] pz := fun P H vs Q t dn k => by
  obtain ⟨v, r, rfl, d1, d2⟩ := dn
  cases (show r = [] from d2)
  obtain ⟨a, xs, rfl, e1, e2⟩ := d1
  have ex : xs = bs.map V.bl := dnA_v e2 (by rw [List.map_map, List.map_map]; rfl)
  subst ex
  exact ⟨a, bs, rfl, SqL.of (hid_ex _ _ _ e1), rv_out k h rfl⟩
theorem rc_strI {i : Int} {pz : Dt → Prop} (hi : i.natAbs.log2 < 1920) (h : pz (.str (toString i))) : Rcv K rStrA [.int i] pz := fun P H vs Q t dn k => by
  obtain ⟨v, r, rfl, d1, d2⟩ := dn
  cases (show r = [] from d2)
  cases (show v = _ from d1)
  exact .inl ⟨i, rfl, hi, rv_out k h rfl⟩
theorem rc_strS {i : Str} {pz : Dt → Prop} (h : pz (.str i)) : Rcv K rStrA [.str i] pz := fun P H vs Q t dn k => by
  obtain ⟨v, r, rfl, d1, d2⟩ := dn
  cases (show r = [] from d2)
  cases (show v = _ from d1)
  exact .inr ⟨i, rfl, rv_out k h rfl⟩
theorem rc_intI {i : Int} {pz : Dt → Prop} (h : pz (.int i)) : Rcv K rIntA [.int i] pz := fun P H vs Q t dn k => by
  obtain ⟨v, r, rfl, d1, d2⟩ := dn
  cases (show r = [] from d2)
  cases (show v = _ from d1)
  exact .inl (.inl ⟨i, rfl, rv_out k h rfl⟩)
theorem rc_intS {x : Str} {n : Int} {pz : Dt → Prop} (hn : PySem.intText? x = some n) (hl : x.length ≤ 640) (h : pz (.int n)) : Rcv K rIntA [.str x] pz := fun P H vs Q t dn k => by
  obtain ⟨v, r, rfl, d1, d2⟩ := dn
  cases (show r = [] from d2)
  cases (show v = _ from d1)
  exact .inr ⟨x, n, rfl, hn, hl, rv_out k h rfl⟩
theorem rc_tupL {ds : List Dt} {pz : Dt → Prop} (h : pz (.tup ds)) : Rcv K (rTupA K) [.lst ds] pz := fun P H vs Q t dn k => by
  obtain ⟨v, r, rfl, d1, d2⟩ := dn
  cases (show r = [] from d2)
  obtain ⟨a, xs, rfl, e1, e2⟩ := d1
  exact ⟨a, xs, rfl, .inl ⟨SqL.of (hid_ex _ _ _ e1), fun p hp => k _ _ _ h (new_ex hp) (new_tup t hp e2)⟩⟩
theorem rc_lstT {ds : List Dt} {pz : Dt → Prop} (h : pz (.lst ds)) : Rcv K (rLstA K) [.tup ds] pz := fun P H vs Q t dn k => by
  obtain ⟨v, r, rfl, d1, d2⟩ := dn
  cases (show r = [] from d2)
  obtain ⟨a, xs, rfl, e1, e2⟩ := d1
  exact ⟨a, xs, rfl, .inr ((hid_ex _).sqT e1), fun p hp => k _ _ _ h (new_ex hp) (new_lst t hp e2)⟩
theorem rc_lstL {ds : List Dt} {pz : Dt → Prop} (h : pz (.lst ds)) : Rcv K (rLstA K) [.lst ds] pz := fun P H vs Q t dn k => by
  obtain ⟨v, r, rfl, d1, d2⟩ := dn
  cases (show r = [] from d2)
  obtain ⟨a, xs, rfl, e1, e2⟩ := d1
  exact ⟨a, xs, rfl, .inl (SqL.of (hid_ex _ _ _ e1)), fun p hp => k _ _ _ h (new_ex hp) (new_lst t hp e2)⟩
theorem rc_repr {d : Dt} {pz : Dt → Prop} (hp : d.plain = true) (h1 : d.py.showable = true) (h2 : d.py.hasDict = false) (h3 : d.py.depth ≤ 50) (h4 : d.py.shown.length ≤ 100000) (h : pz (.str d.py.shown)) : Rcv K (rRepr K) [d] pz := fun P H vs Q t dn k => by
  obtain ⟨v, r, rfl, d1, d2⟩ := dn
  cases (show r = [] from d2)
  exact ⟨v, _, rfl, dp_of d hp (Dn.mono (hid_ex P).n d d1), h1, h2, h3, Nat.le_trans h4 (by decide), rv_out k h rfl⟩
/-! #### isinstance with a built-in class -/
def Dt.tyn : Dt → Option String
  | .non => some "NoneType"
  | .bl _ => some "bool"
  | .int _ => some "int"
  | .str _ => some "str"
  | .lst _ => some "list"
  | .tup _ => some "tuple"
  | .dic _ => some "dict"
  | .dii _ => some "dict"
  | .obj _ _ => none
theorem tyx {H : Hp} {P : List Addr} {d : Dt} {v : V} {n : String} (h : Dn K (hid H P) d v) (e : d.tyn = some n) : TyX K H v (.type n) := by
  cases d with
  | non => cases e; cases (show v = _ from h); exact .base .non
  | bl b => cases e; cases (show v = _ from h); exact .base (.bl _)
  | int b => cases e; cases (show v = _ from h); exact .base (.int _)
  | str b => cases e; cases (show v = _ from h); exact .base (.str _)
  | lst b => cases e; obtain ⟨a, xs, rfl, e1, e2⟩ := h; exact .base (.lst (hid_ex _ _ _ e1))
  | tup b =>
    cases e
    obtain ⟨a, xs, rfl, e1, e2⟩ := h
    rcases (hid_ex P).sqT e1 with (z | ⟨o, z⟩) | ⟨o, its, n, z1, z2, _⟩
    · exact .base (.tup z)
    · exact .fTuple z
    · exact .kTuple z1 z2
  | dic b => cases e; obtain ⟨a, xs, rfl, e1, e2⟩ := h; exact .base (.dK (hid_ex _ _ _ e1))
  | dii b => cases e; obtain ⟨a, rfl, e1⟩ := h; exact .base (.dK (hid_ex _ _ _ e1))
  | obj c b => cases e
theorem eg_isi {te : TE} {n m : String} {d : Dt} {b : Bool} (h : Eg K S G te (· = d)) (e : d.tyn = some m) (hk : kitB m n = some b) : Eg K S G (tCB (rIsi K) (tCons te (tCons (tC (.ty n)) tNil))) (· = .bl b) := fun B O σ H hh Q k =>
  h B O σ H hh _ fun v H1 d1 hd hh1 g1 dn => by
    subst hd
    exact ⟨v, .ty n, .type m, .type n, b, rfl, .ty n, tyx dn e, kit_ty hk, k _ _ _ rfl hh1 g1 rfl⟩
/-! #### methods of texts -/
def Rmv (K : PySem.W.Frag) (r : V → List V → Hp → VK → Prop) (x y : Dt) (z : Dt → Prop) : Prop := ∀ P H v w (Q : VK), Trk P H → Dn K (hid H P) x v → Dn K (hid H P) y w → (∀ u H' d, z d → Ex H H' → Dn K (hid H' P) d u → Q u H') → r v [w] H Q
theorem eg_m1 {r : V → List V → Hp → VK → Prop} {to te : TE} {x : Str} {y : Dt} {pz : Dt → Prop} (ha : Eg K S G to (· = .str x)) (hb : Eg K S G te (· = y)) (hr : Rmv K r (.str x) y pz) : Eg K S G (tM1 r to te) pz := fun B O σ H hh Q k =>
  ha B O σ H hh _ fun v H1 d hd h1 g1 d1 => by
    subst hd
    refine ⟨⟨x, d1⟩, hb B O σ H1 h1 _ fun w H2 d hd h2 g2 d2 => ?_⟩
    subst hd
    exact hr _ H2 v w _ h2.trk (Dn.mono g2 _ d1) d2 fun u H3 d hz e3 d3 => k u H3 d hz (h2.more e3) ((g1.trans g2).trans (hid_mono fun a o _ e => e3 a o e)) d3
theorem dnA_strs {H : Hp} : ∀ ys : List Str, DnA K H (ys.map Dt.str) (ys.map V.str)
  | [] => rfl
  | y :: ys => ⟨_, _, rfl, rfl, dnA_strs ys⟩
def strsD (ys : List Str) : List Dt := ys.map Dt.str
theorem rm_split {a b : Str} {pz : Dt → Prop} (hb : (b.length == 0) = false) (ha : a.length ≤ 100000) (h : pz (.lst (strsD (Txt.split a b)))) :
    Rmv K (fun x xs H Q => ∃ a b, x = .str a ∧ xs = [.str b] ∧ (b.length == 0) = false ∧ a.length + 2 ≤ sizeLine ∧ rNewStrs (Txt.split a b) H Q) (.str a) (.str b) pz := fun P H v w Q t d1 d2 k =>
  ⟨a, b, d1, by rw [show w = _ from d2], hb, Nat.le_trans (Nat.add_le_add_right ha 2) (by decide), fun p hp => k _ _ _ h (new_ex hp) (new_lst t hp (dnA_strs _))⟩
theorem rm_partition {a b : Str} {pz : Dt → Prop} (hb : (b.length == 0) = false) (ha : a.length ≤ 100000) (h : pz (.tup [.str (Txt.partition a b).1, .str (Txt.partition a b).2.1, .str (Txt.partition a b).2.2])) :
    Rmv K (fun x xs H Q => ∃ a b, x = .str a ∧ xs = [.str b] ∧ (b.length == 0) = false ∧ a.length ≤ sizeLine ∧ ∀ p, H p = none → Q (.ref p) (upd H p (.tup [.str (Txt.partition a b).1, .str (Txt.partition a b).2.1, .str (Txt.partition a b).2.2]))) (.str a) (.str b) pz := fun P H v w Q t d1 d2 k =>
  ⟨a, b, d1, by rw [show w = _ from d2], hb, Nat.le_trans ha (by decide), fun p hp => k _ _ _ h (new_ex hp) (new_tup t hp ⟨_, _, rfl, rfl, _, _, rfl, rfl, _, _, rfl, rfl, rfl⟩)⟩
theorem rm_join {a : Str} {ys : List Str} {pz : Dt → Prop} (tup : Bool) (hl : (ys.map (·.length)).sum + ys.length * a.length ≤ 16777216) (h : pz (.str (Txt.join a ys))) :
    Rmv K (fun x xs H Q => ∃ a p, ∃ ys : List Str, x = .str a ∧ xs = [.ref p] ∧ (SqL K H p (ys.map V.str) ∨ SqT K H p (ys.map V.str)) ∧ (ys.map (·.length)).sum + ys.length * a.length ≤ 16777216 ∧ Q (.str (Txt.join a ys)) H)
      (.str a) (if tup then .tup (strsD ys) else .lst (strsD ys)) pz := fun P H v w Q t d1 d2 k => by
  cases tup with
  | true =>
    obtain ⟨p, xs, rfl, e1, e2⟩ := d2
    have ex : xs = ys.map V.str := dnA_v e2 (by unfold strsD; rw [List.map_map, List.map_map]; rfl)
    subst ex
    exact ⟨a, p, ys, d1, rfl, .inr ((hid_ex _).sqT e1), hl, rv_out k h rfl⟩
  | false =>
    obtain ⟨p, xs, rfl, e1, e2⟩ := d2
    have ex : xs = ys.map V.str := dnA_v e2 (by unfold strsD; rw [List.map_map, List.map_map]; rfl)
    subst ex
    exact ⟨a, p, ys, d1, rfl, .inl (SqL.of (hid_ex _ _ _ e1)), hl, rv_out k h rfl⟩
end Sb

set_option Elab.async false
set_option linter.all false
set_option maxRecDepth 100000
set_option autoImplicit false
namespace Sb
open PySem PySem.Spec PyProof.Rows L2
/-! ### enumerate(v), v told by how it begins -/
set_option maxHeartbeats 1000000 in
theorem meets_enum1 {v : Value} {o : Obj} {H : Heap → Prop} (B : Begins v o H) :
    Meets (Builtin.«enumerate.__new__» ⟨[.type "enumerate", v], []⟩) (fun _ R s => H s.heap ∧
      R (.ok (.ret (.ref (s.heap.push o).objs.size)))
        { s with heap := (s.heap.push o).push { cls := .type "enumerate", data := .fields #[.none, .bool false, .ref s.heap.objs.size, rawInt 0, .none, .none] } }) :=
  .of_wp fun prog w A R s hyp => by
    obtain ⟨hp, g, d, tk, os⟩ := s
    obtain ⟨h1, h⟩ := hyp
    have hsub := sub_enumerate
    have q1 : ∀ {A' : Around} {E : Value → Shared → Prop} {Q : Value → Shared → Prop},
        Q (.ref hp.objs.size) ⟨hp.push o, g, d, tk, os⟩ → wpAny (model prog w) A' (pyIter v) Q E ⟨hp, g, d, tk, os⟩ :=
      fun q => B.iter prog w _ _ ⟨hp, g, d, tk, os⟩ _ h1 q
    wp_walk using q1
    refine wpAny_stack_any fun st => wpAny_pure ?_
    split
    · rename_i c _ _ _ _ _
      cases (c == Value.type "enumerate") <;> (wp_walk using q1; exact ⟨_, rfl, h⟩)
    · wp_walk using q1
      exact ⟨_, rfl, h⟩
theorem call_enum1 {prog : Program} {w : World} {A : Around} {E : Value → Shared → Prop} {s : Shared} {v : Value} {o : Obj} {H : Heap → Prop} {Q : Value → Shared → Prop} (B : Begins v o H) (h1 : H s.heap)
    (h : ∀ h', IsEnum h' (s.heap.objs.size + 1) s.heap.objs.size 0 .none → h'.get? s.heap.objs.size = some o →
      (∀ b o, s.heap.get? b = some o → h'.get? b = some o) → Q (.ref (s.heap.objs.size + 1)) { s with heap := h' }) :
    wpAny (model prog w) A (call (.type "enumerate") [v]) Q E s := by
  refine callType_new F.called_enumerate (by decide) (F.typeCall_enumerate_1 _) (F.newCall_enumerate_1 _) (fun ob => F.args_object_init_2 ob _)
    F.entry_enumerate_new (meets_enum1 B) ⟨h1, ?_⟩
  have hz : (s.heap.push o).objs.size = s.heap.objs.size + 1 := Heap.size_push ..
  show _ ∧ _
  rw [hz]
  have he : IsEnum ((s.heap.push o).push { cls := .type "enumerate", data := .fields #[.none, .bool false, .ref s.heap.objs.size, rawInt 0, .none, .none] })
      (s.heap.objs.size + 1) s.heap.objs.size 0 .none := by
    have q := Heap.get?_push_size (s.heap.push o)
      (o := { cls := .type "enumerate", data := .fields #[.none, .bool false, .ref s.heap.objs.size, rawInt 0, .none, .none] }) rfl
    rw [hz] at q
    exact q
  exact ⟨⟨_, he, rfl⟩, h _ he (Heap.get?_push_of_some _ (Heap.get?_push_size _ B.free)) fun b u x => Heap.get?_push_of_some _ (Heap.get?_push_of_some _ x)⟩
/-- the pairs (i, item) of the tuple at a -/
def IteT (K : PySem.W.Frag) (a : Addr) : It where
  go := fun i H => ∃ (xs : List V) (x : V), SqT K H a xs ∧ xs[i]? = some x
  yld := fun i H v H' => ∃ T x, v = .ref T ∧ H T = none ∧ H' = upd H T (.tup [.int (i : Nat), x]) ∧ ∀ xs, SqT K H a xs → xs[i]? = some x
  stop := fun i H => ∃ xs : List V, SqT K H a xs ∧ xs.length = i
theorem turn_enumT {P : Program} {w : World} {K : PySem.W.Frag} {elts : List Expr} {kk : Nat} {tpos : Pos} (a e it : Addr) :
    Turn P w K (.Tuple elts kk tpos) (IteT K a) [e, it] e (fun i h => (∃ old, IsEnum h e it ((i : Nat) : Int) old) ∧ h.IsTupleIter it a i ∧ e ≠ it ∧ a ≠ it ∧ a ≠ e) where
  mem := by simp
  obj := fun i h st b hb => by
    obtain ⟨⟨old, he⟩, ⟨o, ho, hc, hd⟩, _⟩ := st
    have which : b = e ∨ b = it := by simpa using hb
    rcases which with z | z
    · rw [z]
      exact ⟨_, he, fun v q => nomatch q⟩
    · rw [z]
      exact ⟨o, ho, fun v q => by rw [hd] at q; cases q⟩
  keep := fun i h h' st k => by
    obtain ⟨⟨old, he⟩, hi, r⟩ := st
    exact ⟨⟨old, k e (by simp) _ he⟩, hi.at fun o q => k it (by simp) o q, r⟩
  item := by
    intro X hP hw hK hc i pins s σ H E I hf st hg
    subst hP hw hK
    obtain ⟨⟨old, he⟩, hit, n1, n2, n3⟩ := st
    obtain ⟨xs, x, hq, hx⟩ := hg
    obtain ⟨its, rv, p, hz⟩ := I.tuple hq
    obtain ⟨u, hu, ru⟩ := rv.get hx
    have lt : i < its.toArray.size := by
      have := (List.getElem?_eq_some_iff.mp hu).1
      simpa using this
    have hel : e < s.heap.objs.size := Heap.lt_size he
    have hil : it < s.heap.objs.size := by
      obtain ⟨_, q, _⟩ := hit
      exact Heap.lt_size q
    have hd0 : X.A.in1.handled = none := I.ok.hd hc
    refine wpAny_pyNext_enum_itemD (Draws.tuple hd0 it a n2 its.toArray) he ⟨hit, (show s.heap.IsTuple a its.toArray from p)⟩ lt n1 (by simp [n1, Ne.symm n3]) fun y h' tk hy ho hst hT hsz hk => ?_
    have yu : y = u := by
      have q : its[i]? = some y := by simpa using hy
      rw [hu] at q
      exact (Option.some.inj q).symm
    subst yu
    refine ⟨_, rfl, wpAny_letOwnedTupleGo_enum (s := { s with heap := h', toks := tk + 1 }) ho fun h2 he2 sb => ?_⟩
    have hT2 : h2.get? s.heap.objs.size = some { cls := .type "tuple", data := .seq #[.int i tk, y] } := (sb.2 _ (Nat.ne_of_gt hel)).trans hT
    have new : ObjOk X.prog X.w (upd H s.heap.objs.size (.tup [.int (i : Nat), x])) h2 s.heap.objs.size (.tup [.int (i : Nat), x]) :=
      ⟨by show 2 ≤ sizeLine; decide, [.int i tk, y], .cons ⟨_, rfl⟩ (.cons ru .nil), ⟨_, hT2, rfl, _, rfl⟩⟩
    have I1 : Inv X pins σ (upd H s.heap.objs.size (.tup [.int (i : Nat), x])) { s with heap := h2, toks := tk + 1 } :=
      I.turnedNew (ch := [e, it]) (fun b ob hb q => (sb.2 b (fun z => hb (by simp [z]))).trans (hk b ob (fun z => hb (by simp [z])) (fun z => hb (by simp [z])) q)) hf (Nat.le_refl _) new
    refine ⟨.ref s.heap.objs.size, _, I1, rfl, ⟨_, x, rfl, I.hok.fresh (Nat.le_refl _), rfl, fun ys hy => by rw [I.tuple_inj hy hq]; exact hx⟩,
      ⟨⟨y, ?_⟩, hst.1.at fun o q => (sb.2 it (Ne.symm n1)).trans q, n1, n2, n3⟩, fun b hb => ?_⟩
    · have e1 : ((i + 1 : Nat) : Int) = (i : Int) + 1 := by omega
      rw [e1]
      exact he2
    · have hb2 : b < s.heap.objs.size := by
        have which : b = e ∨ b = it := by simpa using hb
        rcases which with z | z
        · rw [z]
          exact hel
        · rw [z]
          exact hil
      rw [upd_ne (Nat.ne_of_lt hb2)]
      exact (hf b hb).1
  done := by
    intro X hP hw hK hc i pins s σ H E I hf st hg
    subst hP hw hK
    obtain ⟨⟨old, he⟩, hit, n1, n2, n3⟩ := st
    obtain ⟨xs, hq, hx⟩ := hg
    obtain ⟨its, rv, p, hz⟩ := I.tuple hq
    obtain ⟨f0, f1, f2, f3, f4, f5⟩ := hf it (by simp)
    have hd0 : X.A.in1.handled = none := I.ok.hd hc
    have sz : its.toArray.size = i := by
      rw [List.size_toArray, ← rv.length]
      exact hx
    subst sz
    exact wpAny_pyNext_enum_endD (Draws.tuple hd0 it a n2 its.toArray) he ⟨hit, (show s.heap.IsTuple a its.toArray from p)⟩
      fun h' eb => ⟨rfl, I.turned (t' := s.toks) (fun b o hb q => eb b o hb q) f0 f1 f3 f4 f5⟩
  self := fun A i s Q E st h => by
    obtain ⟨⟨_, he⟩, _⟩ := st
    exact wpAny_pyIter_enum he h
/-- for i, x in enumerate(t), t a tuple -/
def iEnT (K : PySem.W.Frag) (ta : TA) : TI := fun σ H R => ta σ H fun vs H1 => ∃ a xs, vs = [.ref a] ∧ SqT K H1 a xs ∧ R (IteT K a) H1
theorem pi_enT {X : Cx} {e : Expr} {ta : TA} {p pos tpos : Pos} {elts : List Expr} {kk : Nat} (hg : Gl X "enumerate") (hm : X.mg "enumerate" = none) (ha : PA X [e] ta) (hs : starEach [e] X.env = [(false, eval e X.env)] := by rfl) :
    PI X (.Tuple elts kk tpos) (.Call (.Name "enumerate" p) [e] [] pos) (iEnT X.K ta) := by
  refine ⟨fun pins s σ H R I want => ?_⟩
  refine Call_ (ld_blt I hg hm boot_enumerate (PyProof.Rows.callWith_type1 (thn (ha.run pos pins s σ H _ I want) fun us s1 ⟨vs, H1, I1, rel, q1⟩ => ?_) hs rfl))
  obtain ⟨a, xs, rfl, hq, q⟩ := q1
  cases rel with
  | cons r rr =>
    cases rr
    cases r
    obtain ⟨its, rv, tp, hz⟩ := I1.tuple hq
    have hal : a < s1.heap.objs.size := by
      obtain ⟨o, ho, _⟩ := id tp
      exact Heap.lt_size ho
    refine call_enum1 (begins_tuple a its.toArray) (show s1.heap.IsTuple a its.toArray from tp) fun h' he hit hk => wpAny_pyIter_enum he ?_
    have I2 : Inv X pins σ H1 { s1 with heap := h' } := I1.kept (t' := s1.toks) hk
    refine ⟨s1.heap.objs.size + 1, [s1.heap.objs.size + 1, s1.heap.objs.size], _, _, H1, rfl, I2, turn_enumT a (s1.heap.objs.size + 1) s1.heap.objs.size,
      ⟨⟨.none, he⟩, ⟨_, hit, rfl, rfl⟩, Nat.succ_ne_self _, Nat.ne_of_lt hal, Nat.ne_of_lt (Nat.lt_succ_of_lt hal)⟩, fun b hb => ?_, q⟩
    have hle : s1.heap.objs.size ≤ b := by
      have which : b = s1.heap.objs.size + 1 ∨ b = s1.heap.objs.size := by simpa using hb
      rcases which with z | z
      · rw [z]; exact Nat.le_succ _
      · rw [z]; exact Nat.le_refl _
    exact I1.fpOk hle (I1.hok.fresh hle)
/-- the pairs (i, d) -/
def enumD (ds : List Dt) : List Dt := ds.zipIdx.map fun p => Dt.tup [.int (p.2 : Int), p.1]
theorem enumD_len (ds : List Dt) : (enumD ds).length = ds.length := by unfold enumD; rw [List.length_map, List.length_zipIdx]
theorem enumD_get {ds : List Dt} {i : Nat} {d : Dt} (h : (enumD ds)[i]? = some d) : ∃ e, ds[i]? = some e ∧ d = .tup [.int (i : Int), e] := by
  unfold enumD at h
  rw [List.getElem?_map, List.getElem?_zipIdx] at h
  cases q : ds[i]? with
  | none => rw [q] at h; cases h
  | some e =>
    rw [q] at h
    simp at h
    exact ⟨e, rfl, h.symm⟩
theorem wk_enT {K : KX} {S : List Addr} {G : List Sl} {ta : TA} {ds : List Dt} (h : Ea K S G ta (· = [.tup ds])) : Wk K S G (iEnT K ta) (· = enumD ds) := fun B O σ H hh R k =>
  h B O σ H hh _ fun vs H1 es he h1 g1 d1 => by
    subst he
    obtain ⟨v, r, rfl, ⟨a, xs, rfl, s1, s2⟩, e2⟩ := d1
    cases (show r = [] from e2)
    have hl := DnA.len s2
    refine ⟨a, xs, rfl, (hid_ex _).sqT s1, k _ _ _ rfl h1 g1 ⟨fun i H' e hi => ?_, fun H' e => ?_, fun i H' x H2 d e hi y => ?_⟩⟩
    · rw [enumD_len] at hi
      exact ⟨xs, xs[i]'(by omega), e.sqT s1, List.getElem?_eq_getElem _⟩
    · exact ⟨xs, e.sqT s1, by rw [enumD_len]; exact hl⟩
    · obtain ⟨T, z, rfl, hT, rfl, hz⟩ := y
      obtain ⟨e1, he1, rfl⟩ := enumD_get hi
      obtain ⟨v, q1, q2⟩ := DnA.get s2 he1
      have := hz xs (e.sqT s1)
      rw [q1] at this
      cases this
      refine ⟨new_ex hT, fun P t eb => new_tup t hT ⟨_, _, rfl, rfl, _, _, rfl, Dn.mono eb e1 q2, rfl⟩⟩
end Sb

set_option Elab.async false
set_option linter.all false
set_option maxRecDepth 100000
set_option autoImplicit false
namespace Sb
open PySem PySem.Spec PyProof.Rows L2
variable {K : KX} {S : List Addr} {G : List Sl}
/-! ### == of anything -/
def rEqA (K : PySem.W.Frag) : R2 := fun x y H Q => rEq x y H Q ∨ rEqD K x y H Q
def rNeA (K : PySem.W.Frag) : R2 := fun x y H Q => rNe x y H Q ∨ rNeD K x y H Q
theorem op_eqA {X : Cx} (hu : X.A.units + 64 < cLine) : OpR X (compareOp .Eq) (rEqA X.K) := OpR.or op_eq (op_eqD hu)
theorem op_neA {X : Cx} (hu : X.A.units + 64 < cLine) : OpR X (compareOp .NotEq) (rNeA X.K) := OpR.or op_ne (op_neD hu)
theorem r2_eqS {i j : Str} {pz : Dt → Prop} (h : pz (.bl (decide (i = j)))) : R2v K (rEqA K) (.str i) (.str j) pz := fun P H v w Q t d1 d2 k => by
  have e : decide (V.str i = V.str j) = decide (i = j) := by simp
  exact .inl (r2_eq (x := .str i) (y := .str j) rfl rfl rfl (by rw [e]; exact h) P H v w Q t d1 d2 k)
theorem r2_neS {i j : Str} {pz : Dt → Prop} (h : pz (.bl (!decide (i = j)))) : R2v K (rNeA K) (.str i) (.str j) pz := fun P H v w Q t d1 d2 k => by
  have e : decide (V.str i = V.str j) = decide (i = j) := by simp
  exact .inl (r2_ne (x := .str i) (y := .str j) rfl rfl rfl (by rw [e]; exact h) P H v w Q t d1 d2 k)
theorem r2_eqI {i j : Int} {pz : Dt → Prop} (h : pz (.bl (decide (i = j)))) : R2v K (rEqA K) (.int i) (.int j) pz := fun P H v w Q t d1 d2 k => by
  have e : decide (V.int i = V.int j) = decide (i = j) := by simp
  exact .inl (r2_eq (x := .int i) (y := .int j) rfl rfl rfl (by rw [e]; exact h) P H v w Q t d1 d2 k)
theorem r2_neI {i j : Int} {pz : Dt → Prop} (h : pz (.bl (!decide (i = j)))) : R2v K (rNeA K) (.int i) (.int j) pz := fun P H v w Q t d1 d2 k => by
  have e : decide (V.int i = V.int j) = decide (i = j) := by simp
  exact .inl (r2_ne (x := .int i) (y := .int j) rfl rfl rfl (by rw [e]; exact h) P H v w Q t d1 d2 k)
/-! ### known operands, known answers -/
section
variable {ta tb tc te : TE}
theorem ed_op {r : R2} {x y : Dt} {z : Dt} (ha : Eg K S G ta (· = x)) (hb : Eg K S G tb (· = y)) (hr : R2v K r x y (· = z)) : Eg K S G (tOp r ta tb) (· = z) := eg_op ha hb fun _ _ e1 e2 => by rw [e1, e2]; exact hr
theorem ed_eqS {i j : Str} (ha : Eg K S G ta (· = .str i)) (hb : Eg K S G tb (· = .str j)) : Eg K S G (tOp (rEqA K) ta tb) (· = .bl (decide (i = j))) := ed_op ha hb (r2_eqS rfl)
theorem ed_neS {i j : Str} (ha : Eg K S G ta (· = .str i)) (hb : Eg K S G tb (· = .str j)) : Eg K S G (tOp (rNeA K) ta tb) (· = .bl (!decide (i = j))) := ed_op ha hb (r2_neS rfl)
theorem ed_eqI {i j : Int} (ha : Eg K S G ta (· = .int i)) (hb : Eg K S G tb (· = .int j)) : Eg K S G (tOp (rEqA K) ta tb) (· = .bl (decide (i = j))) := ed_op ha hb (r2_eqI rfl)
theorem ed_neI {i j : Int} (ha : Eg K S G ta (· = .int i)) (hb : Eg K S G tb (· = .int j)) : Eg K S G (tOp (rNeA K) ta tb) (· = .bl (!decide (i = j))) := ed_op ha hb (r2_neI rfl)
theorem ed_isN {x : Dt} (ha : Eg K S G ta (· = x)) : Eg K S G (tOp rIsN ta (tC .non)) (· = .bl x.isN) := ed_op ha eg_non (r2_isN rfl)
theorem ed_notN {x : Dt} (ha : Eg K S G ta (· = x)) : Eg K S G (tOp rNotN ta (tC .non)) (· = .bl (!x.isN)) := ed_op ha eg_non (r2_notN rfl)
theorem ed_ixL {ds : List Dt} {i : Int} {d : Dt} (ha : Eg K S G ta (· = .lst ds)) (hb : Eg K S G tb (· = .int i)) (e : atI ds i = some d) : Eg K S G (tOp (rIxA K) ta tb) (· = d) := ed_op ha hb (r2_ixAL e rfl)
theorem ed_ixT {ds : List Dt} {i : Int} {d : Dt} (ha : Eg K S G ta (· = .tup ds)) (hb : Eg K S G tb (· = .int i)) (e : atI ds i = some d) : Eg K S G (tOp (rIxA K) ta tb) (· = d) := ed_op ha hb (r2_ixAT e rfl)
theorem ed_ixS {z : Str} {i : Int} {c : Nat} (ha : Eg K S G ta (· = .str z)) (hb : Eg K S G tb (· = .int i)) (hz : z.length ≤ 100000) (e : atI z.cps.toList i = some c) : Eg K S G (tOp (rIxA K) ta tb) (· = .str ⟨#[c]⟩) := ed_op ha hb (r2_ixAS hz e rfl)
theorem ed_sub {i j : Int} (ha : Eg K S G ta (· = .int i)) (hb : Eg K S G tb (· = .int j)) : Eg K S G (tOp (rI0 fun i j => .int (i - j)) ta tb) (· = .int (i - j)) := ed_op ha hb fun P H v w Q t d1 d2 k => ⟨i, j, d1, d2, rv_out k rfl rfl⟩
theorem ed_addI {i j : Int} (ha : Eg K S G ta (· = .int i)) (hb : Eg K S G tb (· = .int j)) : Eg K S G (tOp (rAddA K) ta tb) (· = .int (i + j)) := ed_op ha hb (r2_addI rfl)
theorem ed_addS {i j : Str} (ha : Eg K S G ta (· = .str i)) (hb : Eg K S G tb (· = .str j)) (hl : i.length + j.length ≤ 100000) : Eg K S G (tOp (rAddA K) ta tb) (· = .str (i ++ j)) := ed_op ha hb (r2_addS hl rfl)
theorem ed_addL {i j : List Dt} (ha : Eg K S G ta (· = .lst i)) (hb : Eg K S G tb (· = .lst j)) (hl : i.length + j.length ≤ 100000) : Eg K S G (tOp (rAddA K) ta tb) (· = .lst (i ++ j)) := ed_op ha hb (r2_addL hl rfl)
theorem ed_lt {i j : Int} (ha : Eg K S G ta (· = .int i)) (hb : Eg K S G tb (· = .int j)) : Eg K S G (tOp (rI0 fun i j => .bl (decide (i < j))) ta tb) (· = .bl (decide (i < j))) := ed_op ha hb fun P H v w Q t d1 d2 k => ⟨i, j, d1, d2, rv_out k rfl rfl⟩
theorem ed_le {i j : Int} (ha : Eg K S G ta (· = .int i)) (hb : Eg K S G tb (· = .int j)) : Eg K S G (tOp (rI0 fun i j => .bl (decide (i ≤ j))) ta tb) (· = .bl (decide (i ≤ j))) := ed_op ha hb fun P H v w Q t d1 d2 k => ⟨i, j, d1, d2, rv_out k rfl rfl⟩
theorem ed_inS {x : Str} {ys : List Str} (tup : Bool) (ha : Eg K S G ta (· = .str x)) (hb : Eg K S G tb (· = if tup then .tup (strsD ys) else .lst (strsD ys))) : Eg K S G (tOp (rInA K) ta tb) (· = .bl (decide (x ∈ ys))) := by
  have e : inV (V.str x) (ys.map V.str) = decide (x ∈ ys) := by
    unfold inV
    rw [List.any_map]
    by_cases h : x ∈ ys
    · rw [decide_eq_true h]
      exact List.any_eq_true.mpr ⟨x, h, by show eqV (V.str x) (V.str x) = true; unfold eqV; simp⟩
    · rw [decide_eq_false h]
      exact List.any_eq_false.mpr fun y hy => by
        show ¬ eqV (V.str y) (V.str x) = true
        unfold eqV
        have : y ≠ x := fun z => h (z ▸ hy)
        simpa using this
  refine ed_op ha hb (r2_inA (us := ys.map V.str) tup rfl (by unfold strsD; rw [List.map_map, List.map_map]; rfl) rfl (by rw [List.all_map]; exact List.all_eq_true.mpr fun _ _ => rfl) (by rw [e]))
theorem ed_niS {x : Str} {ys : List Str} (tup : Bool) (ha : Eg K S G ta (· = .str x)) (hb : Eg K S G tb (· = if tup then .tup (strsD ys) else .lst (strsD ys))) : Eg K S G (tOp (rNiA K) ta tb) (· = .bl (!decide (x ∈ ys))) := by
  have e : inV (V.str x) (ys.map V.str) = decide (x ∈ ys) := by
    unfold inV
    rw [List.any_map]
    by_cases h : x ∈ ys
    · rw [decide_eq_true h]
      exact List.any_eq_true.mpr ⟨x, h, by show eqV (V.str x) (V.str x) = true; unfold eqV; simp⟩
    · rw [decide_eq_false h]
      exact List.any_eq_false.mpr fun y hy => by
        show ¬ eqV (V.str y) (V.str x) = true
        unfold eqV
        have : y ≠ x := fun z => h (z ▸ hy)
        simpa using this
  refine ed_op ha hb (r2_niA (us := ys.map V.str) tup rfl (by unfold strsD; rw [List.map_map, List.map_map]; rfl) rfl (by rw [List.all_map]; exact List.all_eq_true.mpr fun _ _ => rfl) (by rw [e]))
theorem ed_inSg {c : Nat} {z : Str} (ha : Eg K S G ta (· = .str ⟨#[c]⟩)) (hb : Eg K S G tb (· = .str z)) : Eg K S G (tOp (rInA K) ta tb) (· = .bl (decide (c ∈ z.cps.toList))) := ed_op ha hb (r2_inSg rfl)
theorem ed_niSg {c : Nat} {z : Str} (ha : Eg K S G ta (· = .str ⟨#[c]⟩)) (hb : Eg K S G tb (· = .str z)) : Eg K S G (tOp (rNiA K) ta tb) (· = .bl (!decide (c ∈ z.cps.toList))) := ed_op ha hb (r2_niSg rfl)
/-- a <= b <= c of ints -/
theorem et_chain {i j l : Int} (ha : Eg K S G ta (· = .int i)) (hb : Eg K S G tb (· = .int j)) (hc : Eg K S G tc (· = .int l)) :
    Et K S G (tTest (tChain (rI0 fun i j => .bl (decide (i ≤ j))) (rI0 fun i j => .bl (decide (i ≤ j))) ta tb tc)) (· = (decide (i ≤ j) && decide (j ≤ l))) := et_tst1 fun B O σ H hh Q k =>
  ha B O σ H hh _ fun v H1 d hd h1 g1 d1 => hb B O σ H1 h1 _ fun w H2 e he h2 g2 d2 => by
    subst hd he
    refine ⟨i, j, d1, d2, decide (i ≤ j), rfl, ?_⟩
    cases hq : decide (i ≤ j) with
    | false => exact iteF (k _ _ _ rfl h2 (g1.trans g2) (by show V.bl false = V.bl (_ && _); rw [hq]; rfl))
    | true =>
      refine iteT (hc B O σ H2 h2 _ fun u H3 f hf h3 g3 d3 => ?_)
      subst hf
      exact ⟨j, l, d2, d3, k _ _ _ rfl h3 ((g1.trans g2).trans g3) (by show V.bl _ = V.bl (_ && _); rw [hq]; rfl)⟩
/-- truth -/
def Dt.tru : Dt → Option Bool
  | .non => some false
  | .bl b => some b
  | .int i => some (i != 0)
  | .lst ds => some !ds.isEmpty
  | .tup ds => some !ds.isEmpty
  | _ => none
theorem nil_eq {α β : Type} {ds : List α} {xs : List β} (h : xs.length = ds.length) : (!ds.isEmpty) = !xs.isEmpty := by
  cases ds with
  | nil => cases xs with
    | nil => rfl
    | cons _ _ => cases h
  | cons _ _ => cases xs with
    | nil => cases h
    | cons _ _ => rfl
theorem et_tru {d : Dt} {b : Bool} (ha : Eg K S G ta (· = d)) (e : d.tru = some b) : Et K S G (fun σ H Q => ta σ H fun x H' => ∃ k, TruV K x H' k ∧ Q k H') (· = b) := fun B O σ H hh Q k =>
  ha B O σ H hh _ fun v H1 d' hd h1 g1 d1 => by
    subst hd
    refine ⟨b, ?_, k b H1 rfl h1 g1⟩
    cases d' with
    | non => cases e; cases (show v = _ from d1); rfl
    | bl _ => cases e; cases (show v = _ from d1); rfl
    | int _ => cases e; cases (show v = _ from d1); rfl
    | str _ => cases e
    | lst ds =>
      cases e
      obtain ⟨a, xs, rfl, e1, e2⟩ := d1
      refine .inl ⟨xs, SqL.of (hid_ex _ _ _ e1), ?_⟩
      exact nil_eq (DnA.len e2)
    | tup ds =>
      cases e
      obtain ⟨a, xs, rfl, e1, e2⟩ := d1
      refine .inr (.inl ⟨xs, (hid_ex _).sqT e1, ?_⟩)
      exact nil_eq (DnA.len e2)
    | dic _ => cases e
    | dii _ => cases e
    | obj _ _ => cases e
/-! ### objects -/
theorem dnF_get {H : Hp} {f : Str} : ∀ {ds : List (Str × Dt)} {fs : List (Str × V)} {d : Dt}, DnF K H ds fs → ds.lookup f = some d → ∃ v, fs.lookup f = some v ∧ Dn K H d v
  | [], _, _, _, e => by cases e
  | (x, d0) :: ds, _, _, h, e => by
    obtain ⟨v, r, rfl, h1, h2⟩ := h
    rw [List.lookup_cons] at e ⊢
    cases q : f == x with
    | true =>
      rw [q] at e
      cases e
      exact ⟨v, rfl, h1⟩
    | false =>
      rw [q] at e
      exact dnF_get h2 e
theorem dnF_none {H : Hp} {f : Str} : ∀ {ds : List (Str × Dt)} {fs : List (Str × V)}, DnF K H ds fs → ds.lookup f = none → fs.lookup f = none
  | [], _, h, _ => by cases (show _ = [] from h); rfl
  | (x, d0) :: ds, _, h, e => by
    obtain ⟨v, r, rfl, h1, h2⟩ := h
    rw [List.lookup_cons] at e ⊢
    cases q : f == x with
    | true => rw [q] at e; cases e
    | false =>
      rw [q] at e
      exact dnF_none h2 e
theorem eg_fld {f : Str} {C : Addr} {ds : List (Str × Dt)} {d : Dt} (ha : Eg K S G ta (· = .obj C ds)) (c : Cls K C) (n : NoAttr K C f) (l : ds.lookup f = some d) : Eg K S G (tFld K ta f) (· = d) := fun B O σ H hh Q k =>
  ha B O σ H hh _ fun v H1 d' hd h1 g1 d1 => by
    subst hd
    obtain ⟨a, dx, fs, rfl, e1, e2⟩ := d1
    obtain ⟨w, l1, l2⟩ := dnF_get e2 l
    exact ⟨a, C, dx, fs, w, rfl, hid_ex _ _ _ e1, c, n, l1, k _ _ _ rfl h1 g1 l2⟩
theorem eg_prop {C : Addr} {pre : List Dt → Prop} {post : List Dt → Dt → Prop} {E : XK} {ds : List (Str × Dt)} {pz : Dt → Prop} (ha : Eg K S G ta (· = .obj C ds)) (h : pre [.obj C ds] ∧ ∀ d, post [.obj C ds] d → pz d) : Eg K S G (tProp C (spP K pre post) [] E ta) pz := fun B O σ H hh Q k =>
  ha B O σ H hh _ fun v H1 d' hd h1 g1 d1 => by
    subst hd
    obtain ⟨a, dx, fs, rfl, e1, e2⟩ := id d1
    exact ⟨a, dx, fs, rfl, hid_ex _ _ _ e1, _, [.obj C ds], h1.trk, h1.nd, h1.tb, DnA.one d1, h.1, fun v d H' hp e tb dn => k v H' d (h.2 d hp) (h1.moreN e tb) (g1.trans (hid_monoN fun a o _ z n => e a o z n)) dn⟩
theorem eg_meth {C : Addr} {m : Str} {pre : List Dt → Prop} {post : List Dt → Dt → Prop} {E : XK} {tA : TA} {ds : List (Str × Dt)} {px : List Dt → Prop} {pz : Dt → Prop} (ha : Eg K S G ta (· = .obj C ds)) (hm : ds.lookup m = none) (hb : Ea K S G tA px)
    (h : ∀ es, px es → pre (.obj C ds :: es) ∧ ∀ d, post (.obj C ds :: es) d → pz d) : Eg K S G (tMeth C m (spP K pre post) [] E ta tA) pz := fun B O σ H hh Q k =>
  ha B O σ H hh _ fun v H1 d' hd h1 g1 d1 => by
    subst hd
    obtain ⟨a, dx, fs, rfl, e1, e2⟩ := id d1
    refine ⟨a, dx, fs, rfl, hid_ex _ _ _ e1, dnF_none e2 hm, hb B O σ H1 h1 _ fun vs H2 es hx h2 g2 d2 => ?_⟩
    rw [List.append_nil]
    exact ⟨_, .obj C ds :: es, h2.trk, h2.nd, h2.tb, ⟨_, _, rfl, Dn.mono g2 _ d1, d2⟩, (h es hx).1, fun v d H' hp e tb dn => k v H' d ((h es hx).2 d hp) (h2.moreN e tb) ((g1.trans g2).trans (hid_monoN fun a o _ z n => e a o z n)) dn⟩
theorem dnK_get {H : Hp} {x : Str} : ∀ {ds : List (Str × Dt)} {kvs : List (Key × V)} {d : Dt}, DnK K H ds kvs → ds.lookup x = some d → ∃ v, valV kvs (Sum.inr x : Key) = some v ∧ Dn K H d v
  | [], _, _, _, e => by cases e
  | (y, d0) :: ds, _, _, h, e => by
    obtain ⟨v, r, rfl, h1, h2⟩ := h
    rw [List.lookup_cons] at e
    by_cases q : x = y
    · subst q
      simp at e
      subst e
      exact ⟨v, valV_pos rfl, h1⟩
    · have q' : (x == y) = false := by simpa using q
      rw [q'] at e
      obtain ⟨w, e1, e2⟩ := dnK_get h2 e
      refine ⟨w, ?_, e2⟩
      rw [valV_neg (by intro z; exact q (Sum.inr.inj z).symm)]
      exact e1
theorem eg_dget {ds : List (Str × Dt)} {x : Str} {d : Dt} (ha : Eg K S G ta (· = .dic ds)) (hb : Eg K S G tb (· = .str x)) (l : ds.lookup x = some d) : Eg K S G (tDGet ta tb) (· = d) := fun B O σ H hh Q k =>
  ha B O σ H hh _ fun v H1 d' hd h1 g1 d1 => hb B O σ H1 h1 _ fun w H2 e he h2 g2 d2 => by
    subst hd he
    obtain ⟨a, kvs, rfl, e1, e2⟩ := Dn.mono g2 _ d1
    obtain ⟨u, l1, l2⟩ := dnK_get e2 l
    cases (show w = _ from d2)
    refine ⟨a, u, rfl, ?_, k _ _ _ rfl h2 (g1.trans g2) l2⟩
    rw [← l1]
    exact DGet.k (k := Sum.inr x) (hid_ex _ _ _ e1)
end
/-- a property -/
structure PrX (P : Program) (w : World) (K : PySem.W.Frag) (mg : Str → Option Value) (base : Heap) (k : Nat) (C : Addr) (f : Str) (sp : Sp) : Prop where
  ex : ∃ (p g : Addr) (fd : FuncData) (ps : List Str), Cls K C ∧ PropOf K C f p g ∧ FnOk P w K mg base CX0 k g fd ps sp ∧ Binds K fd ps []
theorem pe_propX {X : Cx} {k j : Nat} {C : Addr} {f : Str} {sp : Sp} {e : Expr} {pos : Pos} {ta : TE} (c : PrX X.prog X.w X.K X.mg X.base k C f sp) (hr : Room j X.A) (hk : k + 1 ≤ j) (he : PE X e ta)
    (hab : attributeBase e f X.env (eval e X.env) = eval e X.env := by rfl) : PE X (.Attribute e f pos) (tProp C sp [] E0 ta) := by
  obtain ⟨p, g, fd, ps, c1, c2, c3, c4⟩ := c.ex
  exact pe_prop he c1 c2 c3 (hr.mono hk) c4 .nil pass0 hab
/-! ### arguments by their number -/
section
variable {ta tb tc td : TE}
theorem ea_1 {x : Dt} (ha : Eg K S G ta (· = x)) : Ea K S G (tCons ta tNil) (· = [x]) := ea_cons ha ea_nil fun _ _ e1 e2 => by rw [e1, e2]
theorem ea_2 {x y : Dt} (ha : Eg K S G ta (· = x)) (hb : Eg K S G tb (· = y)) : Ea K S G (tCons ta (tCons tb tNil)) (· = [x, y]) := ea_cons ha (ea_1 hb) fun _ _ e1 e2 => by rw [e1, e2]
theorem ea_3 {x y z : Dt} (ha : Eg K S G ta (· = x)) (hb : Eg K S G tb (· = y)) (hc : Eg K S G tc (· = z)) : Ea K S G (tCons ta (tCons tb (tCons tc tNil))) (· = [x, y, z]) := ea_cons ha (ea_2 hb hc) fun _ _ e1 e2 => by rw [e1, e2]
theorem ea_4 {x y z u : Dt} (ha : Eg K S G ta (· = x)) (hb : Eg K S G tb (· = y)) (hc : Eg K S G tc (· = z)) (hd : Eg K S G td (· = u)) : Ea K S G (tCons ta (tCons tb (tCons tc (tCons td tNil)))) (· = [x, y, z, u]) := ea_cons ha (ea_3 hb hc hd) fun _ _ e1 e2 => by rw [e1, e2]
theorem ed_tup {tA : TA} {ds : List Dt} (h : Ea K S G tA (· = ds)) (hl : ds.length ≤ 100000 := by simp) : Eg K S G (tTup tA) (· = .tup ds) := eg_tup h fun _ e => by rw [e]; exact ⟨hl, rfl⟩
theorem ed_lst {tA : TA} {ds : List Dt} (h : Ea K S G tA (· = ds)) (hl : ds.length ≤ 100000 := by simp) : Eg K S G (tLst tA) (· = .lst ds) := eg_lst h fun _ e => by rw [e]; exact ⟨hl, rfl⟩
theorem ed_cb {r : List V → Hp → VK → Prop} {tA : TA} {ds : List Dt} {z : Dt} (h : Ea K S G tA (· = ds)) (hr : Rcv K r ds (· = z)) : Eg K S G (tCB r tA) (· = z) := eg_cb h fun _ e => by rw [e]; exact hr
/-- a call of a def whose answer is a function of what it is given -/
theorem ed_call {pre : List Dt → Prop} {f : List Dt → Dt} {E : XK} {tA : TA} {ds : List Dt} (h : Ea K S G tA (· = ds)) (hp : pre ds) : Eg K S G (tCall (spP K pre fun ds d => d = f ds) [] E tA) (· = f ds) := eg_call h fun _ e => by rw [e]; exact ⟨hp, fun _ z => z⟩
end
end Sb

set_option Elab.async false
set_option linter.all false
set_option maxRecDepth 100000
set_option autoImplicit false
namespace Sb
open PySem PySem.Spec PyProof.Rows L2
variable {K : KX} {S : List Addr} {G : List Sl}
/-- a slot is let go -/
theorem Hold.drop {B : Hp} {O : Ow} {H : Hp} {σ : L2.St} {i : Nat} {d : Dt} (hi : G[i]? = some .un) (h : Hold K B S O (G.set i (.da d)) H σ) : Hold K B S O G H (wipe σ [i]) := by
  have ep : pof O (G.set i (.da d)) = pof O G := pof_set hi rfl
  have hlt : i < G.length := (List.getElem?_eq_some_iff.mp hi).1
  refine ⟨by rw [wipe_length, h.len, List.length_set], fun j s e => ?_, by rw [← ep]; exact h.nd, ?_, by rw [← ep]; exact h.ex, h.oo, h.on, h.tb⟩
  · by_cases hj : j = i
    · subst hj
      rw [hi] at e
      cases e
      have hl : j < σ.length := by rw [h.len, List.length_set]; exact hlt
      refine ⟨none, ?_, trivial⟩
      rw [wipe_get, if_pos (by simp), List.getElem?_eq_getElem hl]
      rfl
    · obtain ⟨o, h1, h2⟩ := h.sl j s (by rw [List.getElem?_set_ne (Ne.symm hj)]; exact e)
      refine ⟨o, ?_, by rw [← ep]; exact h2⟩
      rw [wipe_get, if_neg (by simpa using hj)]
      exact h1
  · rw [← h.ss]
    obtain ⟨e1, e2⟩ := split_at (s' := .da d) hi
    rw [e2]
    conv => lhs; rw [e1]
    unfold srs
    rw [List.filterMap_append, List.filterMap_append, List.filterMap_cons, List.filterMap_cons]
    rfl
theorem wipe_two {σ : L2.St} {i j : Nat} : wipe (wipe σ [j]) [i] = wipe σ [i, j] := rfl
theorem Outs.map {Rel : Dt → Option Dt → Prop} {f : Dt → Option Dt} (hf : ∀ d o, Rel d o → o = f d) {ds es : List Dt} (h : Outs Rel ds es) : es = ds.filterMap f := by
  induction h with
  | nil => rfl
  | skip _ r ih =>
    rw [List.filterMap_append, ← ih, List.filterMap_cons, ← hf _ _ r]
    simp
  | add _ r ih =>
    rw [List.filterMap_append, ← ih, List.filterMap_cons, ← hf _ _ r]
    simp
/-- [f d for d in ds] -/
theorem ed_lcMap {wi : TI} {te : TE} {i : Nat} {ds : List Dt} {f : Dt → Dt} (hi : G[i]? = some .un) (hw : Wk K S G wi (· = ds)) (hl : ds.length ≤ 10000) (he : ∀ d ∈ ds, Eg K S (G.set i (.da d)) te (· = f d)) : Eg K S G (tLc wi (gName i) tYes te [i]) (· = .lst (ds.map f)) := by
  refine eg_lc (Rel := fun d o => o = some (f d)) (fun j hj s e => ?_) hw fun ds' e => ?_
  · have : j = i := by simpa using hj
    subst this
    rw [hi] at e
    exact (Option.some.inj e).symm
  · subst e
    refine ⟨hl, fun es h => ?_, fun d hd => ⟨_, (· = true), gg_name hi rfl (by simp), fun B O σ H hh Q k => k true H rfl hh (Gr.refl _ _), fun z => (Bool.false_ne_true z).elim, fun _ => ?_, fun B O H σ hh => hh.drop hi⟩⟩
    · rw [Outs.map (f := fun d => some (f d)) (fun d o r => r) h, List.filterMap_eq_map']
    · exact eg_imp (he d hd) fun _ e => by rw [e]
theorem filterMap_if (b : Dt → Bool) (f : Dt → Dt) : ∀ ds : List Dt, ds.filterMap (fun d => if b d then some (f d) else none) = (ds.filter b).map f
  | [] => rfl
  | a :: r => by
    rw [List.filterMap_cons, List.filter_cons]
    cases q : b a with
    | true => simp [filterMap_if b f r]
    | false => simp [filterMap_if b f r]
/-- [f d for d in ds if b d] -/
theorem ed_lcIf {wi : TI} {te : TE} {tt : TT} {i : Nat} {ds : List Dt} {f : Dt → Dt} {b : Dt → Bool} (hi : G[i]? = some .un) (hw : Wk K S G wi (· = ds)) (hl : ds.length ≤ 10000) (ht : ∀ d ∈ ds, Et K S (G.set i (.da d)) tt (· = b d)) (he : ∀ d ∈ ds, b d = true → Eg K S (G.set i (.da d)) te (· = f d)) :
    Eg K S G (tLc wi (gName i) tt te [i]) (· = .lst ((ds.filter b).map f)) := by
  refine eg_lc (Rel := fun d o => o = if b d then some (f d) else none) (fun j hj s e => ?_) hw fun ds' e => ?_
  · have : j = i := by simpa using hj
    subst this
    rw [hi] at e
    exact (Option.some.inj e).symm
  · subst e
    refine ⟨hl, fun es h => ?_, fun d hd => ⟨_, (· = b d), gg_name hi rfl (by simp), ht d hd, fun z => by rw [← (show false = b d from z)]; rfl, fun z => ?_, fun B O H σ hh => hh.drop hi⟩⟩
    · rw [Outs.map (f := fun d => if b d then some (f d) else none) (fun d o r => r) h, filterMap_if]
    · exact eg_imp (he d hd (show true = b d from z).symm) fun _ e => by rw [e, ← (show true = b d from z)]; rfl
/-- [f d for a, b in ds if b d], the items pairs -/
theorem ed_lcIf2 {wi : TI} {te : TE} {tt : TT} {i j : Nat} {ds : List Dt} {f : Dt → Dt} {b : Dt → Bool} (hi : G[i]? = some .un) (hj : G[j]? = some .un) (hij : i ≠ j) (hw : Wk K S G wi (· = ds)) (hl : ds.length ≤ 10000)
    (hp : ∀ d ∈ ds, ∃ x y, d = .tup [x, y] ∧ Et K S ((G.set i (.da x)).set j (.da y)) tt (· = b d) ∧ (b d = true → Eg K S ((G.set i (.da x)).set j (.da y)) te (· = f d))) :
    Eg K S G (tLc wi (gTup K 2 (gCons (gName i) (gCons (gName j) gNil))) tt te [i, j]) (· = .lst ((ds.filter b).map f)) := by
  refine eg_lc (Rel := fun d o => o = if b d then some (f d) else none) (fun l hl s e => ?_) hw fun ds' e => ?_
  · have : l = i ∨ l = j := by simpa using hl
    rcases this with rfl | rfl
    · rw [hi] at e
      exact (Option.some.inj e).symm
    · rw [hj] at e
      exact (Option.some.inj e).symm
  · subst e
    refine ⟨hl, fun es h => ?_, fun d hd => ?_⟩
    · rw [Outs.map (f := fun d => if b d then some (f d) else none) (fun d o r => r) h, filterMap_if]
    · obtain ⟨x, y, rfl, ht, he⟩ := hp d hd
      have hj2 : (G.set i (.da x))[j]? = some .un := by rw [List.getElem?_set_ne hij]; exact hj
      refine ⟨_, (· = b (.tup [x, y])), gg_two hi rfl hj rfl hij (by simp) (by simp), ht, fun z => by rw [← (show false = b _ from z)]; rfl, fun z => ?_, fun B O H σ hh => ?_⟩
      · exact eg_imp (he (show true = b _ from z).symm) fun _ e => by rw [e, ← (show true = b _ from z)]; rfl
      · rw [← wipe_two]
        exact (hh.drop hj2).drop hi
theorem ed_lcMap2 {wi : TI} {te : TE} {i j : Nat} {ds : List Dt} {f : Dt → Dt} (hi : G[i]? = some .un) (hj : G[j]? = some .un) (hij : i ≠ j) (hw : Wk K S G wi (· = ds)) (hl : ds.length ≤ 10000)
    (hp : ∀ d ∈ ds, ∃ x y, d = .tup [x, y] ∧ Eg K S ((G.set i (.da x)).set j (.da y)) te (· = f d)) : Eg K S G (tLc wi (gTup K 2 (gCons (gName i) (gCons (gName j) gNil))) tYes te [i, j]) (· = .lst (ds.map f)) := by
  have h := ed_lcIf2 (tt := tYes) (te := te) (f := f) (b := fun _ => true) hi hj hij hw hl fun d hd => by
    obtain ⟨x, y, e, h⟩ := hp d hd
    exact ⟨x, y, e, fun B O σ H hh Q k => k true H rfl hh (Gr.refl _ _), fun _ => h⟩
  have e : ds.filter (fun _ => true) = ds := List.filter_eq_self.mpr fun _ _ => rfl
  rw [e] at h
  exact h
/-! ### promises told by what the arguments stand for -/
section
variable {al : Type}
def spX (K : KX) (rep : al → List Dt) (ok : al → Prop) (post : al → Dt → Prop) : Sp := fun vs H Q E => ∃ a, ok a ∧ spP K (· = rep a) (fun _ d => post a d) vs H Q E
def spXS (K : KX) (rep : al → List Dt) (ok : al → Prop) (post : al → Dt → Prop) : Sp := fun vs H Q E => ∃ a, ok a ∧ spS K (· = rep a) (fun _ d => post a d) vs H Q E
variable {rep : al → List Dt} {ok : al → Prop} {post : al → Dt → Prop} {out : al → Dt} {E : XK} {tA : TA}
theorem eg_callX {pz : Dt → Prop} (a : al) (h : Ea K S G tA (· = rep a)) (ha : ok a) (hz : ∀ d, post a d → pz d) : Eg K S G (tCall (spX K rep ok post) [] E tA) pz := fun B O σ H hh Q k =>
  h B O σ H hh _ fun vs H1 ds hx h1 g1 d1 => by
    subst hx
    rw [List.append_nil]
    exact ⟨a, ha, _, _, h1.trk, h1.nd, h1.tb, d1, rfl, fun v d H' hp e tb dn => k v H' d (hz d hp) (h1.moreN e tb) (g1.trans (hid_monoN fun a o _ z n => e a o z n)) dn⟩
theorem ed_callX (a : al) (h : Ea K S G tA (· = rep a)) (ha : ok a) : Eg K S G (tCall (spX K rep ok fun a d => d = out a) [] E tA) (· = out a) := eg_callX a h ha fun _ e => e
/-- the arguments drawn: what they stand for is told behind -/
theorem eg_callXp {px : List Dt → Prop} {pz : Dt → Prop} (h : Ea K S G tA px) (ha : ∀ ds, px ds → ∃ a, ds = rep a ∧ ok a ∧ ∀ d, post a d → pz d) : Eg K S G (tCall (spX K rep ok post) [] E tA) pz := fun B O σ H hh Q k =>
  h B O σ H hh _ fun vs H1 ds hx h1 g1 d1 => by
    obtain ⟨a, rfl, oka, hz⟩ := ha ds hx
    rw [List.append_nil]
    exact ⟨a, oka, _, _, h1.trk, h1.nd, h1.tb, d1, rfl, fun v d H' hp e tb dn => k v H' d (hz d hp) (h1.moreN e tb) (g1.trans (hid_monoN fun a o _ z n => e a o z n)) dn⟩
theorem eg_callXS {px : List Dt → Prop} {pz : Dt → Prop} {i : Nat} {p : Addr} (hi : G[i]? = some (.sr p)) (h : Ea K S G tA px) (ha : ∀ ds, px ds → ∃ a, ds = rep a ∧ ok a ∧ ∀ d, post a d → pz d) :
    Eg K S G (tCall (spXS K rep ok post) [] E (tCons (tVar i) tA)) pz := fun B O σ H hh Q k => by
  obtain ⟨o, e1, rfl, _⟩ := hh.sl i _ hi
  refine ⟨_, e1, ?_⟩
  refine h B O σ H hh _ fun vs H1 ds hx h1 g1 d1 => ?_
  obtain ⟨a, rfl, oka, hz⟩ := ha ds hx
  show spXS K rep ok post ((.ref p :: vs) ++ []) H1 Q E
  rw [List.append_nil]
  have hS : p ∈ S := by rw [← h1.ss]; exact List.mem_filterMap.mpr ⟨_, List.mem_of_getElem? hi, rfl⟩
  have hP : p ∈ pof O G := List.mem_append_right _ (mem_ads hi rfl)
  refine ⟨a, oka, pof O G, p, rep a, vs, rfl, hP, h1.srcAt p hS, h1.trk, h1.nd, h1.tb, d1, rfl, fun v d H' hp sa e tb dn => k v H' d (hz d hp) (h1.subN p hS e sa tb) (g1.trans (hid_monoN fun a o n z nt => e a o (fun q => n (by rw [q]; exact hP)) z nt)) dn⟩
theorem eg_methX {C : Addr} {m : Str} {ta : TE} {ds : List (Str × Dt)} {px : List Dt → Prop} {pz : Dt → Prop} (hs : Eg K S G ta (· = .obj C ds)) (hm : ds.lookup m = none) (hb : Ea K S G tA px)
    (h : ∀ es, px es → ∃ a, .obj C ds :: es = rep a ∧ ok a ∧ ∀ d, post a d → pz d) : Eg K S G (tMeth C m (spX K rep ok post) [] E ta tA) pz := fun B O σ H hh Q k =>
  hs B O σ H hh _ fun v H1 d' hd h1 g1 d1 => by
    subst hd
    obtain ⟨a, dx, fs, rfl, e1, e2⟩ := id d1
    refine ⟨a, dx, fs, rfl, hid_ex _ _ _ e1, dnF_none e2 hm, hb B O σ H1 h1 _ fun vs H2 es hx h2 g2 d2 => ?_⟩
    obtain ⟨b, eb, okb, hz⟩ := h es hx
    rw [List.append_nil]
    exact ⟨b, okb, _, .obj C ds :: es, h2.trk, h2.nd, h2.tb, ⟨_, _, rfl, Dn.mono g2 _ d1, d2⟩, eb, fun v d H' hp e tb dn => k v H' d (hz d hp) (h2.moreN e tb) ((g1.trans g2).trans (hid_monoN fun a o _ z n => e a o z n)) dn⟩
theorem eg_propX {C : Addr} {ta : TE} {ds : List (Str × Dt)} {pz : Dt → Prop} (a : al) (hs : Eg K S G ta (· = .obj C ds)) (e : [.obj C ds] = rep a) (oka : ok a) (hz : ∀ d, post a d → pz d) : Eg K S G (tProp C (spX K rep ok post) [] E ta) pz := fun B O σ H hh Q k =>
  hs B O σ H hh _ fun v H1 d' hd h1 g1 d1 => by
    subst hd
    obtain ⟨b, dx, fs, rfl, e1, e2⟩ := id d1
    exact ⟨b, dx, fs, rfl, hid_ex _ _ _ e1, a, oka, _, _, h1.trk, h1.nd, h1.tb, DnA.one d1, e, fun v d H' hp e tb dn => k v H' d (hz d hp) (h1.moreN e tb) (g1.trans (hid_monoN fun a o _ z n => e a o z n)) dn⟩
section
variable {P : Program} {w : World} {mg : Str → Option Value} {base : Heap}
theorem fn_x {x qual : Str} {st : Stmt} {f : Addr} {fd : FuncData} {N ps : List Str} {k : Nat} (F : Fun K x qual st f fd) (Sc : FnScope N ps (defScope st)) (hl : ∀ a, (rep a).length = ps.length)
    (hb : ∀ (cdv : Value) (A : Around) (outer : List Env) (s : Shared) (H : Hp) (E : XK), Room k (A.deeper (envOfC qual (defScope st) s.heap.objs.size f cdv)) →
      ∃ t, PSs (cxOf CX0 P w K mg base N qual (defScope st) f cdv A outer s H E).nox (defBody st) t ∧ ∀ a, ok a → Run K [] t (fr0 (rep a) N.length) (fun _ => post a .non) (post a) (fun _ => False)) :
    FnOk P w K mg base CX0 (k + 1) f fd ps (spX K rep ok post) := by
  refine F.ok Sc (fun vs H Q E h => ?_) fun cdv A outer s H vs Q E hr h => ?_
  · obtain ⟨a, _, _, ds, _, _, _, d, rfl, _⟩ := h
    rw [DnA.len d]
    exact hl a
  · obtain ⟨t, h1, h2⟩ := hb cdv A outer s H E hr
    obtain ⟨a, oka, h⟩ := h
    exact ⟨t, h1, endP h fun ds e => by subst e; exact h2 a oka⟩
theorem fn_xs {x qual : Str} {st : Stmt} {f : Addr} {fd : FuncData} {y : Str} {N ps : List Str} {k : Nat} (F : Fun K x qual st f fd) (Sc : FnScope (y :: N) (y :: ps) (defScope st)) (hl : ∀ a, (rep a).length = ps.length)
    (hb : ∀ (cdv : Value) (A : Around) (outer : List Env) (s : Shared) (H : Hp) (E : XK), Room k (A.deeper (envOfC qual (defScope st) s.heap.objs.size f cdv)) →
      ∃ t, PSs (cxOf CX0 P w K mg base (y :: N) qual (defScope st) f cdv A outer s H E).nox (defBody st) t ∧ ∀ p a, ok a → Run K [p] t (.sr p :: fr0 (rep a) N.length) (fun _ => post a .non) (post a) (fun _ => False)) :
    FnOk P w K mg base CX0 (k + 1) f fd (y :: ps) (spXS K rep ok post) := by
  refine F.ok Sc (fun vs H Q E h => ?_) fun cdv A outer s H vs Q E hr h => ?_
  · obtain ⟨a, _, _, p, ds, ws, rfl, _, _, _, _, _, d, rfl, _⟩ := h
    rw [List.length_cons, DnA.len d, hl a]
    rfl
  · obtain ⟨t, h1, h2⟩ := hb cdv A outer s H E hr
    obtain ⟨a, oka, h⟩ := h
    exact ⟨t, h1, endS h fun p ds e => by subst e; exact h2 p a oka⟩
/-- .. where nothing is being shown -/
theorem fnG_x {x qual : Str} {st : Stmt} {f : Addr} {fd : FuncData} {N ps : List Str} {k : Nat} (F : Fun K x qual st f fd) (Sc : FnScope N ps (defScope st)) (hl : ∀ a, (rep a).length = ps.length)
    (hb : ∀ (cdv : Value) (A : Around) (outer : List Env) (s : Shared) (H : Hp) (E : XK), A.guards = some [] → Room k (A.deeper (envOfC qual (defScope st) s.heap.objs.size f cdv)) →
      ∃ t, PSs (cxOf CX0 P w K mg base N qual (defScope st) f cdv A outer s H E).nox (defBody st) t ∧ ∀ a, ok a → Run K [] t (fr0 (rep a) N.length) (fun _ => post a .non) (post a) (fun _ => False)) :
    FnG P w K mg base (k + 1) f fd ps (spX K rep ok post) := by
  refine fun_okG F Sc (fun vs H Q E h => ?_) fun cdv A outer s H vs Q E gd hr h => ?_
  · obtain ⟨a, _, _, ds, _, _, _, d, rfl, _⟩ := h
    rw [DnA.len d]
    exact hl a
  · obtain ⟨t, h1, h2⟩ := hb cdv A outer s H E gd hr
    obtain ⟨a, oka, h⟩ := h
    exact ⟨t, h1, endP h fun ds e => by subst e; exact h2 a oka⟩
theorem fnG_xs {x qual : Str} {st : Stmt} {f : Addr} {fd : FuncData} {y : Str} {N ps : List Str} {k : Nat} (F : Fun K x qual st f fd) (Sc : FnScope (y :: N) (y :: ps) (defScope st)) (hl : ∀ a, (rep a).length = ps.length)
    (hb : ∀ (cdv : Value) (A : Around) (outer : List Env) (s : Shared) (H : Hp) (E : XK), A.guards = some [] → Room k (A.deeper (envOfC qual (defScope st) s.heap.objs.size f cdv)) →
      ∃ t, PSs (cxOf CX0 P w K mg base (y :: N) qual (defScope st) f cdv A outer s H E).nox (defBody st) t ∧ ∀ p a, ok a → Run K [p] t (.sr p :: fr0 (rep a) N.length) (fun _ => post a .non) (post a) (fun _ => False)) :
    FnG P w K mg base (k + 1) f fd (y :: ps) (spXS K rep ok post) := by
  refine fun_okG F Sc (fun vs H Q E h => ?_) fun cdv A outer s H vs Q E gd hr h => ?_
  · obtain ⟨a, _, _, p, ds, ws, rfl, _, _, _, _, _, d, rfl, _⟩ := h
    rw [List.length_cons, DnA.len d, hl a]
    rfl
  · obtain ⟨t, h1, h2⟩ := hb cdv A outer s H E gd hr
    obtain ⟨a, oka, h⟩ := h
    exact ⟨t, h1, endS h fun p ds e => by subst e; exact h2 p a oka⟩
end
end
end Sb

set_option Elab.async false
set_option linter.all false
set_option maxRecDepth 100000
set_option autoImplicit false
namespace Sb
open PySem PySem.Spec PyProof.Rows L2
/-! ### the same rules, the written part named -/
section
variable {X : Cx} {K : PySem.W.Frag}
theorem op_addK (h : X.K = K := by rfl) : OpR X (binaryOp .Add) (rAddA K) := h ▸ op_addA
theorem op_inK (h : X.K = K := by rfl) : OpR X (compareOp .In) (rInA K) := h ▸ op_inA
theorem op_niK (h : X.K = K := by rfl) : OpR X (compareOp .NotIn) (rNiA K) := h ▸ op_niA
theorem op_eqK (hu : X.A.units + 64 < cLine) (h : X.K = K := by rfl) : OpR X (compareOp .Eq) (rEqA K) := h ▸ op_eqA hu
theorem op_neK (hu : X.A.units + 64 < cLine) (h : X.K = K := by rfl) : OpR X (compareOp .NotEq) (rNeA K) := h ▸ op_neA hu
theorem ix_anyK (h : X.K = K := by rfl) : IxR X (rIxA K) := h ▸ ix_any
theorem sl_anyK (h : X.K = K := by rfl) : SlR X (rSlA K) := h ▸ sl_any
theorem call_lenK (h : X.K = K := by rfl) : CallR X (.builtin "len") (rLenA K) := h ▸ call_lenA
theorem call_tupK (h : X.K = K := by rfl) : CallR X (.type "tuple") (rTupA K) := h ▸ call_tupA
theorem call_lstK (h : X.K = K := by rfl) : CallR X (.type "list") (rLstA K) := h ▸ call_lstA
theorem call_isiQ (h : X.K = K := by rfl) : CallR X (.builtin "isinstance") (rIsi K) := h ▸ call_isi
theorem cr_allK (hc : X.calm = true) (h : X.K = K := by rfl) : CallR X (.builtin "all") (rAll K) := h ▸ cr_all hc
theorem call_reprK (gd : X.A.guards = some []) (hu : X.A.units + 64 < cLine) (h : X.K = K := by rfl) : CallR X (.builtin "repr") (rRepr K) := h ▸ call_reprD gd hu
theorem pi_anyK {tg l : Expr} {tl : TE} (hl : PE X l tl) (h : X.K = K := by rfl) : PI X tg l (iAny K tl) := h ▸ pi_any hl
def rJoin (K : PySem.W.Frag) : V → List V → Hp → VK → Prop := fun x xs H Q => ∃ a p, ∃ ys : List Str, x = .str a ∧ xs = [.ref p] ∧ (SqL K H p (ys.map V.str) ∨ SqT K H p (ys.map V.str)) ∧ (ys.map (·.length)).sum + ys.length * a.length ≤ 16777216 ∧ Q (.str (Txt.join a ys)) H
theorem mt_joinK (h : X.K = K := by rfl) : MtR X "str.join" (rJoin K) := h ▸ mt_join
theorem pe_joinK {o e : Expr} {to te : TE} {apos pos : Pos} (ho : PE X o to) (he : PE X e te) (h : X.K = K := by rfl) (hs : starEach [e] X.env = [(false, eval e X.env)] := by rfl) (hbase : attributeBase o "join" X.env (eval o X.env) = eval o X.env := by rfl)
    (hline : (apos.endLine == pos.line) = true := by rfl) : PE X (.Call (.Attribute o "join" apos) [e] [] pos) (tM1 (rJoin K) to te) :=
  pe_m1 F.slot_str_join F.type_str_join (mt_joinK h) ho he hs hbase hline
end
/-! ### what may be called -/
structure Cal (P : Program) (w : World) (K : PySem.W.Frag) (mg : Str → Option Value) (base : Heap) (k : Nat) (x : Str) (sp : Sp) : Prop where
  ex : ∃ (f : Addr) (fd : FuncData) (ps : List Str),
    FnOk P w K mg base CX0 k f fd ps sp ∧ mg x = some (.ref f) ∧ PySem.W.keepIn K (.ref f) = true ∧ Binds K fd ps []
structure CalG (P : Program) (w : World) (K : PySem.W.Frag) (mg : Str → Option Value) (base : Heap) (k : Nat) (x : Str) (sp : Sp) : Prop where
  ex : ∃ (f : Addr) (fd : FuncData) (ps : List Str),
    FnG P w K mg base k f fd ps sp ∧ mg x = some (.ref f) ∧ PySem.W.keepIn K (.ref f) = true ∧ Binds K fd ps []
structure Mak (P : Program) (w : World) (K : PySem.W.Frag) (mg : Str → Option Value) (base : Heap) (k : Nat) (x : Str) (C : Addr) (sp : Sp) : Prop where
  ex : ∃ (f : Addr) (fd : FuncData) (ps : List Str), Mk K C f ∧ FnOk P w K mg base CX0 k f fd ps sp ∧ mg x = some (.ref C) ∧ Binds K fd ps []
structure Met (P : Program) (w : World) (K : PySem.W.Frag) (mg : Str → Option Value) (base : Heap) (k : Nat) (C : Addr) (m : Str) (sp : Sp) : Prop where
  ex : ∃ (f : Addr) (fd : FuncData) (ps : List Str), Cls K C ∧ Meth K C m f ∧ FnOk P w K mg base CX0 k f fd ps sp ∧ Binds K fd ps []
section
variable {X : Cx} {j k : Nat} {x m : Str} {sp : Sp} {C : Addr} {p pos apos : Pos} {e o : Expr} {es : List Expr} {t : TA} {ta : TE}
theorem pe_gc {v : V} (hg : Gl X x) (h : ∃ u, X.mg x = some u ∧ RelV v u) (hd : (x == ("__debug__" : Str)) = false := by decide) : PE X (.Name x pos) (tC v) := by
  obtain ⟨u, h1, h2⟩ := h
  exact pe_glob hg h1 h2 hd
theorem pe_c (c : Cal X.prog X.w X.K X.mg X.base k x sp) (hr : Room j X.A) (hk : k ≤ j) (hg : Gl X x) (ha : PA X (e :: es) t) (hdb : (x == ("__debug__" : Str)) = false := by decide)
    (he : starEach (e :: es) X.env = (false, eval e X.env) :: starEach es X.env := by rfl) (hpl : (backTo pos (starEach es X.env)).any (·.1) = false := by rfl) :
    PE X (.Call (.Name x p) (e :: es) [] pos) (tCall sp [] E0 t) := by
  obtain ⟨f, fd, ps, F, hm, kp, b⟩ := c.ex
  exact pe_call F (hr.mono hk) hg hm kp b .nil pass0 ha hdb he hpl
theorem pe_cG (c : CalG X.prog X.w X.K X.mg X.base k x sp) (gd : X.A.guards = some []) (hr : Room j X.A) (hk : k ≤ j) (hg : Gl X x) (ha : PA X (e :: es) t) (hdb : (x == ("__debug__" : Str)) = false := by decide)
    (he : starEach (e :: es) X.env = (false, eval e X.env) :: starEach es X.env := by rfl) (hpl : (backTo pos (starEach es X.env)).any (·.1) = false := by rfl) :
    PE X (.Call (.Name x p) (e :: es) [] pos) (tCall sp [] E0 t) := by
  obtain ⟨f, fd, ps, F, hm, kp, b⟩ := c.ex
  exact pe_callG F gd (hr.mono hk) hg hm kp b ha hdb he hpl
theorem pe_mk (c : Mak X.prog X.w X.K X.mg X.base k x C sp) (hr : Room j X.A) (hk : k + 1 ≤ j) (hg : Gl X x) (ha : PA X (e :: es) t) (hdb : (x == ("__debug__" : Str)) = false := by decide)
    (he : starEach (e :: es) X.env = (false, eval e X.env) :: starEach es X.env := by rfl) (hpl : (backTo pos (starEach es X.env)).any (·.1) = false := by rfl) :
    PE X (.Call (.Name x p) (e :: es) [] pos) (tMake C sp [] E0 t) := by
  obtain ⟨f, fd, ps, M, F, hm, b⟩ := c.ex
  exact pe_make M F (hr.mono hk) hg hm b .nil pass0 ha hdb he hpl
theorem pe_mt {pl : Sem Bool} (c : Met X.prog X.w X.K X.mg X.base k C m sp) (hr : Room j X.A) (hk : k ≤ j) (he : PE X o ta) (ha : PA X (e :: es) t)
    (hst : starEach (e :: es) X.env = (false, eval e X.env) :: starEach es X.env := by rfl) (hpl : (backTo pos (starEach es X.env)).any (·.1) = false := by rfl)
    (ht : eval (.Call (.Attribute o m apos) (e :: es) [] pos) X.env = (do
      let ov ← eval o X.env
      standAt apos.atName
      let (f, first) ← holding [ov] (getMethod ov m pl)
      callWith pos f first (backTo pos (starEach (e :: es) X.env)) (backToKw pos (keywordEach [] X.env))) := by rfl) :
    PE X (.Call (.Attribute o m apos) (e :: es) [] pos) (tMeth C m sp [] E0 ta t) := by
  obtain ⟨f, fd, ps, c1, c2, F, b⟩ := c.ex
  exact pe_meth he c1 c2 F (hr.mono hk) b .nil pass0 ha hst hpl ht
end
end Sb

set_option Elab.async false
set_option linter.all false
set_option maxRecDepth 100000
set_option autoImplicit false
namespace Sb
open PySem PySem.Spec PyProof.Rows L2 TL
/-! ### names, numbers, parts: the texts -/
def sLetters : Str := "abcdefghijklmnopqrstuvwxyz"
def sDigits : Str := "0123456789"
abbrev cs (x : Str) : List Nat := x.cps.toList
def isLet (c : Nat) : Prop := 97 ≤ c ∧ c ≤ 122
def isDig (c : Nat) : Prop := 48 ≤ c ∧ c ≤ 57
theorem letters_eq : cs sLetters = List.range' 97 26 := by decide +kernel
theorem digits_eq : cs sDigits = List.range' 48 10 := by decide +kernel
theorem mem_letters (c : Nat) : c ∈ cs sLetters ↔ isLet c := by
  rw [letters_eq, List.mem_range'_1]
  unfold isLet
  omega
theorem mem_digits (c : Nat) : c ∈ cs sDigits ↔ isDig c := by
  rw [digits_eq, List.mem_range'_1]
  unfold isDig
  omega
structure NameOk (x : Str) : Prop where
  ex : ∃ c r, cs x = c :: r ∧ isLet c ∧ (∀ d ∈ r, isLet d ∨ isDig d) ∧ r.length ≤ 7
theorem len_cs (x : Str) : x.length = (cs x).length := by simp [Str.length]
theorem NameOk.len {x : Str} (h : NameOk x) : 1 ≤ x.length ∧ x.length ≤ 8 := by
  obtain ⟨c, r, e, _, _, hl⟩ := h.ex
  rw [len_cs, e, List.length_cons]
  omega
theorem NameOk.all {x : Str} (h : NameOk x) : ∀ d ∈ cs x, isLet d ∨ isDig d := by
  obtain ⟨c, r, e, h1, h2, _⟩ := h.ex
  rw [e]
  intro d hd
  rcases List.mem_cons.mp hd with z | z
  · subst z; exact .inl h1
  · exact h2 d z
def num (n : Nat) : Str := Str.ofString (toString (n : Int))
theorem cs_num (n : Nat) : cs (num n) = numL n := tl_num n
theorem num_dig (n : Nat) : ∀ d ∈ cs (num n), isDig d := fun d hd => by
  rw [cs_num] at hd
  unfold isDig
  by_cases h : d < 48 ∨ 57 < d
  · exact absurd hd (numL_free h)
  · omega
theorem num_head (n : Nat) : ∃ c r, cs (num n) = c :: r ∧ isDig c := by
  cases e : cs (num n) with
  | nil => rw [cs_num] at e; exact absurd e (numL_ne n)
  | cons c r => exact ⟨c, r, rfl, num_dig n c (by rw [e]; exact List.mem_cons_self)⟩
theorem num_not_name {n : Nat} {x : Str} (h : NameOk x) : num n ≠ x := fun z => by
  obtain ⟨c, r, e, h1⟩ := num_head n
  obtain ⟨c', r', e', h1', _⟩ := h.ex
  rw [z, e'] at e
  cases e
  unfold isDig at h1
  unfold isLet at h1'
  omega
theorem num_len {n : Nat} (h : n ≤ 1000000000000) : (num n).length ≤ 13 := by
  rw [len_cs, cs_num]
  exact numL_len (by decide) (Nat.lt_of_le_of_lt h (by decide))
theorem num_len1 (n : Nat) : 1 ≤ (num n).length := by
  obtain ⟨c, r, e, _⟩ := num_head n
  rw [len_cs, e, List.length_cons]
  omega
theorem num_int {n : Nat} (h : n ≤ 1000000000000) : PySem.intText? (num n) = some (n : Int) := int_num (Nat.le_trans (by rw [← cs_num, ← len_cs]; exact num_len h) (by decide))
inductive Pt where
  | nm (x : Str) | nu (n : Nat)
def Pt.txt : Pt → Str
  | .nm x => x
  | .nu n => num n
def Pt.d : Pt → Dt
  | .nm x => .str x
  | .nu n => .int (n : Int)
def Pt.ok (ns : List Str) : Pt → Prop
  | .nm x => x ∈ ns
  | .nu n => n ≤ 1000000000000
def NamesOk (ns : List Str) : Prop := ∀ x ∈ ns, NameOk x
/-- plain words: signs that are letters, digits, < or = -/
def Word (x : Str) : Prop := (∀ d ∈ cs x, d ≠ 32 ∧ d ≠ 58 ∧ d ≠ 10) ∧ x.length ≤ 20
theorem word_name {x : Str} (h : NameOk x) : Word x := ⟨fun d hd => by
  rcases h.all d hd with z | z
  · unfold isLet at z; omega
  · unfold isDig at z; omega, by have := h.len; omega⟩
theorem word_num {n : Nat} (h : n ≤ 1000000000000) : Word (num n) := ⟨fun d hd => by
  have z := num_dig n d hd
  unfold isDig at z; omega, by have := num_len h; omega⟩
theorem Pt.word {ns : List Str} (hn : NamesOk ns) {p : Pt} (h : p.ok ns) : Word p.txt := by
  cases p with
  | nm x => exact word_name (hn x h)
  | nu n => exact word_num h
/-! words with a blank between -/
def sp1 : Str := " "
def jn (ws : List Str) : Str := Txt.join sp1 ws
theorem cs_sp1 : cs sp1 = [32] := by decide +kernel
theorem split_jn {ws : List Str} (h : ws ≠ []) (hw : ∀ x ∈ ws, Word x) : Txt.split (jn ws) sp1 = ws := by
  have e := split_join (y := sp1) (s := 32) (S := []) cs_sp1 (by decide +kernel) h (fun p hp hm => ((hw p hp).1 32 hm).1 rfl)
  first
    | exact e
    | (unfold jn; rw [join_eq]; exact e)
theorem cs_jn (ws : List Str) : cs (jn ws) = joinL [32] (ws.map cs) := by
  have e := tl_join sp1 ws
  rw [show tl sp1 = [32] from cs_sp1] at e
  unfold jn
  rw [join_eq]
  exact e
theorem joinL_mem {d : Nat} : ∀ {ps : List (List Nat)}, d ∈ joinL [32] ps → d = 32 ∨ ∃ p ∈ ps, d ∈ p
  | [], h => by cases h
  | [p], h => .inr ⟨p, by simp, h⟩
  | p :: q :: ps, h => by
    have h' : d ∈ p ++ ([32] ++ joinL [32] (q :: ps)) := by
      first
        | exact h
        | (simp only [joinL, List.append_assoc] at h; exact h)
    rcases List.mem_append.mp h' with z | z
    · exact .inr ⟨p, by simp, z⟩
    · rcases List.mem_append.mp z with z | z
      · exact .inl (by simpa using z)
      · rcases joinL_mem z with z | ⟨r, hr, z⟩
        · exact .inl z
        · exact .inr ⟨r, List.mem_cons_of_mem _ hr, z⟩
theorem jn_no {ws : List Str} (hw : ∀ x ∈ ws, Word x) {d : Nat} (h : d ∈ cs (jn ws)) : d ≠ 58 ∧ d ≠ 10 := by
  rw [cs_jn] at h
  rcases joinL_mem h with z | ⟨p, hp, z⟩
  · omega
  · obtain ⟨x, hx, rfl⟩ := List.mem_map.mp hp
    have := (hw x hx).1 d z
    exact ⟨this.2.1, this.2.2⟩
theorem joinL_len : ∀ {ps : List (List Nat)}, (∀ p ∈ ps, p.length ≤ 20) → (joinL [32] ps).length ≤ 21 * ps.length
  | [], _ => Nat.zero_le _
  | [p], h => by
    have := h p (by simp)
    show p.length ≤ _
    simp
    omega
  | p :: q :: ps, h => by
    have h1 := h p (by simp)
    have h2 := joinL_len (ps := q :: ps) fun r hr => h r (List.mem_cons_of_mem _ hr)
    have e : (joinL [32] (p :: q :: ps)).length = p.length + (1 + (joinL [32] (q :: ps)).length) := by
      first
        | (show (p ++ ([32] ++ joinL [32] (q :: ps))).length = _; rw [List.length_append, List.length_append]; rfl)
        | (simp only [joinL, List.append_assoc, List.length_append]; rfl)
    rw [e]
    simp only [List.length_cons] at h2 ⊢
    omega
theorem jn_len {ws : List Str} (hw : ∀ x ∈ ws, Word x) : (jn ws).length ≤ 21 * ws.length := by
  rw [len_cs, cs_jn]
  have := joinL_len (ps := ws.map cs) fun p hp => by
    obtain ⟨x, hx, rfl⟩ := List.mem_map.mp hp
    rw [← len_cs]
    exact (hw x hx).2
  rw [List.length_map] at this
  exact this
end Sb

set_option Elab.async false
set_option linter.all false
set_option maxRecDepth 100000
set_option autoImplicit false
namespace Sb
open PySem PySem.Spec PyProof.Rows L2 TL
variable {K : KX} {S : List Addr} {G : List Sl} {N Bk : List Sl → Prop} {R : Dt → Prop} {t1 t2 t3 : TS} {tt : TT} {te : TE}
/-! ### statements one after the other, what they give being known -/
theorem q_set {i : Nat} {s : Sl} {d : Dt} (h : Eg K S G te (· = d)) (k : Run K S t2 (G.set i (.da d)) N R Bk) (hi : G[i]? = some s := by rfl) (hs : s.ad = none := by rfl) : Run K S (tSeq (tAsg te (gName i)) t2) G N R Bk :=
  run_seq (N1 := (· = G.set i (.da d))) (run_set h hi hs fun _ e => by rw [e]) fun _ e => by rw [e]; exact k
theorem q_setP {i : Nat} {s : Sl} {p : Dt → Prop} (h : Eg K S G te p) (k : ∀ d, p d → Run K S t2 (G.set i (.da d)) N R Bk) (hi : G[i]? = some s := by rfl) (hs : s.ad = none := by rfl) : Run K S (tSeq (tAsg te (gName i)) t2) G N R Bk :=
  run_seq (N1 := fun g => ∃ d, p d ∧ g = G.set i (.da d)) (run_set h hi hs fun d e => ⟨d, e, rfl⟩) fun _ ⟨d, e, z⟩ => by rw [z]; exact k d e
theorem q_no (h : Et K S G tt (· = false)) (k : Run K S t2 G N R Bk) : Run K S (tSeq (tIfS tt t1 tNext) t2) G N R Bk :=
  run_seq (N1 := (· = G)) (run_if h (fun z => (Bool.false_ne_true z.symm).elim) fun _ => run_next rfl) fun _ e => by rw [e]; exact k
theorem q_yes (h : Et K S G tt (· = true)) (k : Run K S t1 G (fun _ => False) R Bk) : Run K S (tSeq (tIfS tt t1 t3) t2) G N R Bk :=
  run_seq (N1 := fun _ => False) (run_if h (fun _ => k) fun z => (Bool.false_ne_true z).elim) fun _ e => e.elim
theorem q_drop {p : Dt → Prop} (h : Eg K S G te p) (k : Run K S t2 G N R Bk) : Run K S (tSeq (tDrop te) t2) G N R Bk :=
  run_seq (N1 := (· = G)) (run_drop h rfl) fun _ e => by rw [e]; exact k
theorem q_own {i : Nat} {s : Sl} (k : ∀ p, Run K S t2 (G.set i (.ow p [])) N R Bk) (hi : G[i]? = some s := by rfl) (hs : s.ad = none := by rfl) : Run K S (tSeq (tAsg (tLst tNil) (gName i)) t2) G N R Bk :=
  run_seq (N1 := fun g => ∃ p, g = G.set i (.ow p [])) (run_own hi hs fun p => ⟨p, rfl⟩) fun _ ⟨p, e⟩ => by rw [e]; exact k p
/-- only an if at the end, its answer no -/
theorem l_no (h : Et K S G tt (· = false)) (k : N G) : Run K S (tIfS tt t1 tNext) G N R Bk := run_if h (fun z => (Bool.false_ne_true z.symm).elim) fun _ => run_next k
theorem et_eq {b c : Bool} (h : Et K S G tt (· = b)) (e : b = c) : Et K S G tt (· = c) := e ▸ h
theorem eg_eq {b c : Dt} (h : Eg K S G te (· = b)) (e : b = c) : Eg K S G te (· = c) := e ▸ h
/-! ### conditions, deeds, rows -/
theorem decW (x : Str) : Word x ↔ ((cs x).all fun d => decide (d ≠ 32 ∧ d ≠ 58 ∧ d ≠ 10)) = true ∧ x.length ≤ 20 := by
  unfold Word
  rw [List.all_eq_true]
  simp only [decide_eq_true_eq]
def sIf : Str := "if"
def sSell : Str := "sell"
def sAt : Str := "at"
def sKeep : Str := "keep"
def sLt : Str := "<"
def sLe : Str := "<="
theorem w_if : Word sIf := (decW _).mpr (by decide +kernel)
theorem w_sell : Word sSell := (decW _).mpr (by decide +kernel)
theorem w_at : Word sAt := (decW _).mpr (by decide +kernel)
theorem w_keep : Word sKeep := (decW _).mpr (by decide +kernel)
theorem w_lt : Word sLt := (decW _).mpr (by decide +kernel)
theorem w_le : Word sLe := (decW _).mpr (by decide +kernel)
structure Cond where
  p : Pt
  st : Bool
  q : Pt
def Cond.sg (c : Cond) : Str := if c.st then sLt else sLe
def Cond.ws (c : Cond) : List Str := [sIf, c.p.txt, c.sg, c.q.txt]
def Cond.txt (c : Cond) : Str := jn c.ws
def Cond.d (c : Cond) : Dt := .tup [c.p.d, .str c.sg, c.q.d]
def Cond.ok (ns : List Str) (c : Cond) : Prop := c.p.ok ns ∧ c.q.ok ns
theorem Cond.sgw (c : Cond) : Word c.sg := by
  unfold Cond.sg
  cases c.st
  · exact w_le
  · exact w_lt
theorem Cond.words {ns : List Str} (hn : NamesOk ns) {c : Cond} (h : c.ok ns) : ∀ x ∈ c.ws, Word x := fun x hx => by
  unfold Cond.ws at hx
  simp only [List.mem_cons, List.not_mem_nil, or_false] at hx
  rcases hx with rfl | rfl | rfl | rfl
  · exact w_if
  · exact Pt.word hn h.1
  · exact c.sgw
  · exact Pt.word hn h.2
inductive Who where
  | seat (x : Str) | place (k : Nat)
def Who.txt : Who → Str
  | .seat x => x
  | .place k => num k
def Who.d : Who → Dt
  | .seat x => .str x
  | .place k => .int (k : Int)
def Who.ok (seats : List Str) : Who → Prop
  | .seat x => x ∈ seats
  | .place k => 1 ≤ k ∧ k ≤ seats.length
inductive Deed where
  | keep | sell (w : Who) (p : Pt)
def Deed.ws : Deed → List Str
  | .keep => [sKeep]
  | .sell w p => [sSell, w.txt, sAt, p.txt]
def Deed.txt (d : Deed) : Str := jn d.ws
def Deed.d : Deed → Dt
  | .keep => .tup [.str sKeep]
  | .sell w p => .tup [.str sSell, w.d, p.d]
def Deed.ok (seats ns : List Str) : Deed → Prop
  | .keep => True
  | .sell w p => w.ok seats ∧ p.ok ns
theorem Who.word {seats : List Str} (hn : NamesOk seats) (hl : seats.length ≤ 9) {w : Who} (h : w.ok seats) : Word w.txt := by
  cases w with
  | seat x => exact word_name (hn x h)
  | place k => exact word_num (by have := h.2; omega)
theorem Deed.words {seats ns : List Str} (hs : NamesOk seats) (hl : seats.length ≤ 9) (hn : NamesOk ns) {d : Deed} (h : d.ok seats ns) : ∀ x ∈ d.ws, Word x := fun x hx => by
  cases d with
  | keep =>
    have : x = sKeep := by simpa [Deed.ws] using hx
    subst this
    exact w_keep
  | sell w p =>
    simp only [Deed.ws, List.mem_cons, List.not_mem_nil, or_false] at hx
    rcases hx with rfl | rfl | rfl | rfl
    · exact w_sell
    · exact Who.word hs hl h.1
    · exact w_at
    · exact Pt.word hn h.2
theorem jn_one (x : Str) : jn [x] = x := by
  unfold jn
  rw [join_eq]
  rfl
theorem sell_ne_keep {seats ns : List Str} (hs : NamesOk seats) (hl : seats.length ≤ 9) (hn : NamesOk ns) {w : Who} {p : Pt} (h : (Deed.sell w p).ok seats ns) : (Deed.sell w p).txt ≠ sKeep := fun z => by
  have e1 := split_jn (ws := (Deed.sell w p).ws) (by simp [Deed.ws]) (Deed.words hs hl hn h)
  have hk : ∀ x ∈ [sKeep], Word x := fun x hx => by
    have e : x = sKeep := by simpa using hx
    subst e
    exact w_keep
  have e2 := split_jn (ws := [sKeep]) (by simp) hk
  rw [jn_one] at e2
  have z' : jn (Deed.sell w p).ws = sKeep := z
  rw [z', e2] at e1
  have := congrArg List.length e1
  simp [Deed.ws] at this
structure Row where
  c : Option Cond
  d : Deed
def sColon : Str := ": "
def Row.txt (r : Row) : Str := match r.c with
  | none => r.d.txt
  | some c => c.txt ++ sColon ++ r.d.txt
def Row.dt (r : Row) : Dt := .tup [match r.c with | none => .non | some c => c.d, r.d.d]
def Row.ok (seats ns : List Str) (r : Row) : Prop := r.d.ok seats ns ∧ ∀ c, r.c = some c → c.ok ns
theorem cs_colon : cs sColon = [58, 32] := by decide +kernel
theorem row_part {c : Cond} {ns : List Str} (hn : NamesOk ns) (h : c.ok ns) (t : Str) : Txt.partition (c.txt ++ sColon ++ t) sColon = (c.txt, sColon, t) :=
  partition_app (s := 58) (S := [32]) cs_colon fun z => (jn_no (Cond.words hn h) z).1 rfl
end Sb

set_option Elab.async false
set_option linter.all false
set_option maxRecDepth 100000
set_option autoImplicit false
namespace Sb
open PySem PySem.Spec PyProof.Rows L2 TL
variable {K : KX} {S : List Addr} {G : List Sl} {N Bk : List Sl → Prop} {R : Dt → Prop}
theorem cut_take {ds : List Dt} {k : Nat} (h : k ≤ ds.length) : cutD ds none (some (k : Int)) = ds.take k := by
  unfold cutD
  rw [HT.sIx_none, HT.sIx_nat, List.drop_zero, Nat.min_eq_left h, Nat.sub_zero]
theorem eg_takeT {te tb : TE} {ds : List Dt} {k : Nat} (h : Eg K S G te (· = .tup ds)) (hb : Eg K S G tb (· = .int (k : Int))) (hk : k < ds.length) : Eg K S G (tSl (rSlA K) te tNoPart (tPart tb)) (· = .tup (ds.take k)) := by
  refine eg_eq (eg_slT h eo_none (eo_some hb) fun z => ?_) (by rw [cut_take (by omega)])
  rw [HT.sIx_nat] at z
  omega
theorem strsD_take (xs : List Str) (k : Nat) : (strsD xs).take k = strsD (xs.take k) := by unfold strsD; rw [List.map_take]
theorem strsD_len (xs : List Str) : (strsD xs).length = xs.length := by unfold strsD; rw [List.length_map]
theorem strsD_get {xs : List Str} {i : Nat} {d : Dt} (h : (strsD xs)[i]? = some d) : ∃ x, xs[i]? = some x ∧ d = .str x := by
  unfold strsD at h
  rw [List.getElem?_map] at h
  cases e : xs[i]? with
  | none => rw [e] at h; cases h
  | some x => rw [e] at h; exact ⟨x, rfl, (Option.some.inj h).symm⟩
theorem enumS_get {xs : List Str} {i : Nat} {d : Dt} (h : (enumD (strsD xs))[i]? = some d) : ∃ x, xs[i]? = some x ∧ d = .tup [.int (i : Int), .str x] := by
  obtain ⟨e, h1, rfl⟩ := enumD_get h
  obtain ⟨x, h2, rfl⟩ := strsD_get h1
  exact ⟨x, h2, rfl⟩
/-- tuple(xs), xs an own list -/
theorem eg_tupO {i : Nat} {p : Addr} {ds : List Dt} (hi : G[i]? = some (.ow p ds)) : Eg K S G (tCB (rTupA K) (tCons (tVar i) tNil)) (· = .tup ds) := fun B O σ H hh Q k => by
  obtain ⟨h1, xs, h3, h4⟩ := own_dn hh hi
  exact ⟨_, h1, p, xs, rfl, .inl ⟨SqL.of h3, fun q hq => k _ _ _ rfl (hh.more (new_ex hq)) (hid_new hq) (new_tup hh.trk hq h4)⟩⟩
/-- a for at which nothing is left behind but what stands told -/
theorem run_forD {wi : TI} {g : TG} {tb : TS} {ds : List Dt} (I : Nat → List Sl → Prop) (hw : Wk K S G wi (· = ds)) (i0 : I 0 G)
    (step : ∀ i d G1, ds[i]? = some d → I i G1 → ∃ W G2, Gg K S G1 g d W G2 ∧ Run K S tb G2 (I (i + 1)) R N) (fin : ∀ G1, I ds.length G1 → N G1) : Run K S (tFor wi g tb) G N R Bk :=
  run_for hw fun es e => by subst e; exact ⟨I, i0, step, fin⟩
theorem nodup_take {xs : List Str} (h : xs.Nodup) {i : Nat} {x : Str} (e : xs[i]? = some x) : x ∉ xs.take i := fun z => by
  obtain ⟨j, hj⟩ := List.mem_iff_getElem?.mp z
  have hlt : j < i := by
    have := (List.getElem?_eq_some_iff.mp hj).1
    rw [List.length_take] at this
    omega
  rw [List.getElem?_take_of_lt hlt] at hj
  exact absurd (nodup_ix (N := xs) h hj e) (by omega)
end Sb

set_option Elab.async false
set_option linter.all false
set_option maxRecDepth 100000
set_option autoImplicit false
namespace Sb
open PySem PySem.Spec PyProof.Rows L2 TL
def top (i : Nat) : Stmt := PySem.Challenge.pw_salebids_k04_standing_of_seats.main.body.getD i (.Pass ⟨0, 0, 0, 0⟩)
/-! ### what the module's names hold -/
structure Bf (K : PySem.W.Frag) (mg : Str → Option Value) (aS aO : Addr) : Prop where
  n_isinstance : mg "isinstance" = none
  n_int : mg "int" = none
  n_bool : mg "bool" = none
  n_str : mg "str" = none
  n_tuple : mg "tuple" = none
  n_list : mg "list" = none
  n_len : mg "len" = none
  n_all : mg "all" = none
  n_range : mg "range" = none
  n_enumerate : mg "enumerate" = none
  n_zip : mg "zip" = none
  n_dict : mg "dict" = none
  n_abs : mg "abs" = none
  n_max : mg "max" = none
  n_min : mg "min" = none
  n_divmod : mg "divmod" = none
  n_repr : mg "repr" = none
  g_LETTERS : ∃ u, mg "LETTERS" = some u ∧ RelV (.str sLetters) u
  g_DIGITS : ∃ u, mg "DIGITS" = some u ∧ RelV (.str sDigits) u
  g_LONGEST_NAME : ∃ u, mg "LONGEST_NAME" = some u ∧ RelV (.int 8) u
  g_MOST_SEATS : ∃ u, mg "MOST_SEATS" = some u ∧ RelV (.int 4) u
  g_MOST_LINES : ∃ u, mg "MOST_LINES" = some u ∧ RelV (.int 8) u
  g_MOST_ROWS : ∃ u, mg "MOST_ROWS" = some u ∧ RelV (.int 6) u
  g_MOST_PARTS : ∃ u, mg "MOST_PARTS" = some u ∧ RelV (.int 6) u
  g_MOST_INTEGER : ∃ u, mg "MOST_INTEGER" = some u ∧ RelV (.int 1000000000000) u
  g_SIGNS : ∃ u, mg "SIGNS" = some u ∧ RelV (.ref aS) u
  g_ORDERS : ∃ u, mg "ORDERS" = some u ∧ RelV (.ref aO) u
  t_SIGNS : ∀ H, SqT K H aS [.str "<", .str "<="]
  t_ORDERS : ∀ H, SqT K H aO [.str "high", .str "low"]
section
variable {P : Program} {w : World} {K : KX} {mg : Str → Option Value} {base : Heap} {aS aO : Addr}
end
end Sb

set_option Elab.async false
set_option linter.all false
set_option maxRecDepth 100000
set_option autoImplicit false
namespace Sb
open PySem PySem.Spec PyProof.Rows L2 TL
abbrev s_is_integer : Stmt := top 21
abbrev N_is_integer : List Str := ["value"]
abbrev A_is_integer : List Str := ["value"]
theorem sc_is_integer : FnScope N_is_integer A_is_integer (defScope s_is_integer) :=
  ⟨rfl, rfl, rfl, by decide +kernel, rfl, by decide +kernel, by decide +kernel⟩
abbrev s_is_name : Stmt := top 22
abbrev N_is_name : List Str := ["value", "sign"]
abbrev A_is_name : List Str := ["value"]
theorem sc_is_name : FnScope N_is_name A_is_name (defScope s_is_name) :=
  ⟨rfl, rfl, rfl, by decide +kernel, rfl, by decide +kernel, by decide +kernel⟩
abbrev s_integer_of : Stmt := top 23
abbrev N_integer_of : List Str := ["word", "number", "sign"]
abbrev A_integer_of : List Str := ["word"]
theorem sc_integer_of : FnScope N_integer_of A_integer_of (defScope s_integer_of) :=
  ⟨rfl, rfl, rfl, by decide +kernel, rfl, by decide +kernel, by decide +kernel⟩
abbrev s_place_of : Stmt := top 24
abbrev N_place_of : List Str := ["word", "most", "place"]
abbrev A_place_of : List Str := ["word", "most"]
theorem sc_place_of : FnScope N_place_of A_place_of (defScope s_place_of) :=
  ⟨rfl, rfl, rfl, by decide +kernel, rfl, by decide +kernel, by decide +kernel⟩
abbrev s_part_of : Stmt := top 25
abbrev N_part_of : List Str := ["word", "names"]
abbrev A_part_of : List Str := ["word", "names"]
theorem sc_part_of : FnScope N_part_of A_part_of (defScope s_part_of) :=
  ⟨rfl, rfl, rfl, by decide +kernel, rfl, by decide +kernel, by decide +kernel⟩
section
variable {P : Program} {w : World} {K : KX} {mg : Str → Option Value} {base : Heap} {aS aO : Addr}
/-! ### is_integer -/
def isInt : Dt → Bool
  | .int _ => true
  | _ => false
abbrev sp_is_integer (K : KX) : Sp := spX K (fun d : Dt => [d]) (fun d => d.tyn.isSome = true) (fun d e => e = .bl (isInt d))
theorem ok_is_integer {f : Addr} {fd : FuncData} (F : Fun K "is_integer" "is_integer" s_is_integer f fd) (B : Bf K mg aS aO) :
    FnOk P w K mg base CX0 1 f fd A_is_integer (sp_is_integer K) := by
  refine fn_x F sc_is_integer (fun _ => rfl) fun cdv A outer s H E hr => ⟨_, (pss_one (ps_ret (pe_and (pe_callB (call_isiQ (K := K)) (by rfl) B.n_isinstance (by decide +kernel) (pa_cons (pv 0) (pa_cons (pe_bltn (v := .ty "int") (by rfl) B.n_int (by decide +kernel) rfl) pa_nil))) (pe_one (pe_not (pe_callB (call_isiQ (K := K)) (by rfl) B.n_isinstance (by decide +kernel) (pa_cons (pv 0) (pa_cons (pe_bltn (v := .ty "bool") (by rfl) B.n_bool (by decide +kernel) rfl) pa_nil)))))))), fun d ht => ?_⟩
  refine run_ret ?_
  cases d with
  | obj _ _ => cases ht
  | int i => exact eg_andV (b := true) (eg_isi (b := true) (eg_var rfl) rfl (by decide +kernel)) fun _ => eg_notV (a := false) (eg_isi (eg_var rfl) rfl (by decide +kernel))
  | bl i => exact eg_andV (b := false) (eg_isi (b := true) (eg_var rfl) rfl (by decide +kernel)) fun _ => eg_notV (a := true) (eg_isi (eg_var rfl) rfl (by decide +kernel))
  | non => exact eg_andV (a := false) (b := false) (eg_isi (eg_var rfl) rfl (by decide +kernel)) fun z => nomatch z
  | str _ => exact eg_andV (a := false) (b := false) (eg_isi (eg_var rfl) rfl (by decide +kernel)) fun z => nomatch z
  | lst _ => exact eg_andV (a := false) (b := false) (eg_isi (eg_var rfl) rfl (by decide +kernel)) fun z => nomatch z
  | tup _ => exact eg_andV (a := false) (b := false) (eg_isi (eg_var rfl) rfl (by decide +kernel)) fun z => nomatch z
  | dic _ => exact eg_andV (a := false) (b := false) (eg_isi (eg_var rfl) rfl (by decide +kernel)) fun z => nomatch z
  | dii _ => exact eg_andV (a := false) (b := false) (eg_isi (eg_var rfl) rfl (by decide +kernel)) fun z => nomatch z
/-! ### is_name -/
theorem sgs_mem {x : Str} {d : Dt} (h : d ∈ sgs x) : ∃ c ∈ cs x, d = .str ⟨#[c]⟩ := by
  obtain ⟨c, hc, rfl⟩ := List.mem_map.mp h
  exact ⟨c, hc, rfl⟩
theorem sgs_len (x : Str) : (sgs x).length = x.length := by
  unfold sgs
  rw [List.length_map]
  exact (len_cs x).symm
theorem map_true (n : Nat) : (List.replicate n (Dt.bl true)) = (List.replicate n true).map Dt.bl := by rw [List.map_replicate]
theorem all_rep (n : Nat) : (List.replicate n true).all id = true := List.all_eq_true.mpr fun b hb => List.eq_of_mem_replicate hb
theorem at0 {α : Type} {c : α} {r : List α} : atI (c :: r) 0 = some c := atI_nat (j := 0) rfl
abbrev sp_is_name (K : KX) : Sp := spX K (fun x : Str => [Dt.str x]) NameOk (fun _ e => e = .bl true)
theorem ok_is_name {f : Addr} {fd : FuncData} (F : Fun K "is_name" "is_name" s_is_name f fd) (B : Bf K mg aS aO) :
    FnOk P w K mg base CX0 1 f fd A_is_name (sp_is_name K) := by
  refine fn_x F sc_is_name (fun _ => rfl) fun cdv A outer s H E hr => ⟨_, (pss_cons (ps_if ((pw_or (pt_not (pt_val (pe_callB (call_isiQ (K := K)) (by rfl) B.n_isinstance (by decide +kernel) (pa_cons (pv 0) (pa_cons (pe_bltn (v := .ty "str") (by rfl) B.n_str (by decide +kernel) rfl) pa_nil))))) (pw_or1 (pt_not (pt_chain op_le op_le pe_int (pe_callB (call_lenK (K := K)) (by rfl) B.n_len (by decide +kernel) (pa_cons (pv 0) pa_nil)) (pe_gc (by rfl) B.g_LONGEST_NAME)))))).pt (pss_one (ps_ret pe_bl)) pss_nil) (pss_one (ps_ret (pe_and (pe_cmpR (op_inK (K := K)) (pe_ix (ix_anyK (K := K)) (pv 0) pe_int (fun _ _ => rfl)) (pe_gc (by rfl) B.g_LETTERS) rfl) (pe_one (pe_callB (cr_allK (K := K) rfl) (by rfl) B.n_all (by decide +kernel) (pa_cons (pe_lc (own := [("sign", 1)]) (g := gName 1) (by rfl) sc_is_name.nd (pi_anyK (K := K) (pv 0)) (blkOk_by (own := [("sign", 1)]) (N := N_is_name) (sc := defScope s_is_name) (by decide +kernel)) (fun _ _ _ _ _ => (pg_name (i := 1) sc_is_name.nd rfl (Or.inl rfl))) (fun _ _ _ _ _ => pts_nil) (fun _ _ _ _ _ => (pe_or (pe_cmpR (op_inK (K := K)) (pv 1) (pe_gc (by rfl) B.g_LETTERS) rfl) (pe_one (pe_cmpR (op_inK (K := K)) (pv 1) (pe_gc (by rfl) B.g_DIGITS) rfl))))) pa_nil))))))), fun x hx => ?_⟩
  have hl := hx.len
  have hb : x.length ≤ 100000 := by omega
  refine run_seq (N1 := (· = fr0 [.str x] 2)) (run_if (p := (· = false)) ?_ (fun z => nomatch z) fun _ => run_next rfl) fun G1 e => ?_
  · refine et_imp (et_or1 (b := false) (et_not1 (a := true) (et_B1 (eg_isi (eg_var rfl) rfl (by decide +kernel)))) fun _ => et_imp (et_not1 (et_chain (i := 1) (j := (x.length : Int)) (l := 8) eg_int (ed_cb (ea_1 (eg_var rfl)) (rc_len rfl hb rfl)) eg_int)) fun b e => ?_) fun b e => by rw [e]; rfl
    rw [e, decide_eq_true (by omega), decide_eq_true (by omega)]
    rfl
  · subst e
    obtain ⟨c, r, ec, h1, h2, _⟩ := hx.ex
    refine run_ret (eg_andV (a := true) (b := true) ?_ fun _ => ?_)
    · refine eg_imp (ed_inSg (c := c) (ed_ixS (eg_var rfl) eg_int hb ?_) (eg_str (i := sLetters))) fun d e => ?_
      · rw [show x.cps.toList = c :: r from ec]; exact at0
      · rw [e, decide_eq_true ((mem_letters c).mpr h1)]
    · have key : Eg K [] (fr0 [.str x] 2) _ (· = .lst ((sgs x).map fun _ => Dt.bl true)) := ed_lcMap (i := 1) (te := tOrV (tOp (rInA K) (tVar 1) (tC (.str sLetters))) (tOp (rInA K) (tVar 1) (tC (.str sDigits)))) rfl (wk_any1 (d := .str x) (eg_var (i := 0) rfl) rfl) (by rw [sgs_len]; omega) fun d hd => by
        obtain ⟨c, hc, rfl⟩ := sgs_mem hd
        by_cases hq : isLet c
        · exact eg_orV (a := true) (b := true) (eg_imp (ed_inSg (eg_var rfl) eg_str) fun d e => by rw [e, decide_eq_true ((mem_letters c).mpr hq)]) fun z => nomatch z
        · refine eg_orV (a := false) (b := true) (eg_imp (ed_inSg (eg_var rfl) eg_str) fun d e => by rw [e, decide_eq_false fun z => hq ((mem_letters c).mp z)]) fun _ => ?_
          exact eg_imp (ed_inSg (eg_var rfl) eg_str) fun d e => by rw [e, decide_eq_true ((mem_digits c).mpr ((hx.all c hc).resolve_left hq))]
      rw [List.map_const', map_true] at key
      exact ed_cb (ea_1 key) (rc_all (by rw [all_rep]))
/-! ### integer_of -/
abbrev sp_integer_of (K : KX) : Sp := spX K (fun n : Nat => [Dt.str (num n)]) (fun n => n ≤ 1000000000000) (fun n e => e = .int (n : Int))
theorem log2_small {i : Int} (h : i.natAbs ≤ 1000000000000000) : i.natAbs.log2 < 1920 := by
  by_cases z : i.natAbs = 0
  · rw [z]; decide
  · exact Nat.lt_of_lt_of_le ((Nat.log2_lt z).mpr (Nat.lt_of_le_of_lt h (by decide : (1000000000000000 : Nat) < 2 ^ 60))) (by decide)
theorem ok_integer_of {f : Addr} {fd : FuncData} (F : Fun K "integer_of" "integer_of" s_integer_of f fd) (B : Bf K mg aS aO) :
    FnOk P w K mg base CX0 1 f fd A_integer_of (sp_integer_of K) := by
  refine fn_x F sc_integer_of (fun _ => rfl) fun cdv A outer s H E hr => ⟨_, (pss_cons (ps_if ((pw_or (pt_not (pt_chain op_le op_le pe_int (pe_callB (call_lenK (K := K)) (by rfl) B.n_len (by decide +kernel) (pa_cons (pv 0) pa_nil)) (pe_callB (call_lenK (K := K)) (by rfl) B.n_len (by decide +kernel) (pa_cons (pe_callTy call_strA (by rfl) B.n_str (by decide +kernel) (pa_cons (pe_gc (by rfl) B.g_MOST_INTEGER) pa_nil)) pa_nil)))) (pw_or1 (pt_not (pt_val (pe_callB (cr_allK (K := K) rfl) (by rfl) B.n_all (by decide +kernel) (pa_cons (pe_lc (own := [("sign", 2)]) (g := gName 2) (by rfl) sc_integer_of.nd (pi_anyK (K := K) (pv 0)) (blkOk_by (own := [("sign", 2)]) (N := N_integer_of) (sc := defScope s_integer_of) (by decide +kernel)) (fun _ _ _ _ _ => (pg_name (i := 2) sc_integer_of.nd rfl (Or.inl rfl))) (fun _ _ _ _ _ => pts_nil) (fun _ _ _ _ _ => (pe_cmpR (op_inK (K := K)) (pv 2) (pe_gc (by rfl) B.g_DIGITS) rfl))) pa_nil))))))).pt (pss_one (ps_ret pe_non)) pss_nil) (pss_cons (ps_set (i := 1) sc_integer_of.nd rfl (Or.inl rfl) (pe_callTy call_intA (by rfl) B.n_int (by decide +kernel) (pa_cons (pv 0) pa_nil))) (pss_one (ps_ret (pe_ifExp ((pw_and (pt_cmpR (op_eqK (K := K) hr.units) (pe_callTy call_strA (by rfl) B.n_str (by decide +kernel) (pa_cons (pv 1) pa_nil)) (pv 0) (nomark _)) (pw_and1 (pt_cmpR op_le (pv 1) (pe_gc (by rfl) B.g_MOST_INTEGER) (nomark _))))).pt (pv 1) pe_non))))), fun n hn => ?_⟩
  have h1 := num_len1 n
  have h2 := num_len hn
  have hb : (num n).length ≤ 100000 := by omega
  refine run_seq (N1 := (· = fr0 [.str (num n)] 3)) (run_if (p := (· = false)) ?_ (fun z => nomatch z) fun _ => run_next rfl) fun G1 e => ?_
  · refine et_imp (et_or1 (b := false) (a := false) (et_imp (et_not1 (et_chain (i := 1) (j := ((num n).length : Int)) (l := 13) eg_int (ed_cb (ea_1 (eg_var rfl)) (rc_len rfl hb rfl)) (ed_cb (ea_1 (ed_cb (ea_1 eg_int) (rc_strI (by decide +kernel) rfl))) (rc_len (n := 13) (by decide +kernel) (by decide) rfl)))) fun b e => ?_) fun _ => et_not1 (a := true) (et_B1 ?_)) fun b e => by rw [e]; rfl
    · rw [e, decide_eq_true (by omega), decide_eq_true (by omega)]
      rfl
    · have key : Eg K [] (fr0 [.str (num n)] 3) _ (· = .lst ((sgs (num n)).map fun _ => Dt.bl true)) := ed_lcMap (i := 2) (te := tOp (rInA K) (tVar 2) (tC (.str sDigits))) rfl (wk_any1 (d := .str (num n)) (eg_var (i := 0) rfl) rfl) (by rw [sgs_len]; omega) fun d hd => by
        obtain ⟨c, hc, rfl⟩ := sgs_mem hd
        exact eg_imp (ed_inSg (eg_var rfl) eg_str) fun d e => by rw [e, decide_eq_true ((mem_digits c).mpr (num_dig n c hc))]
      rw [List.map_const', map_true] at key
      exact ed_cb (ea_1 key) (rc_all (by rw [all_rep]))
  · subst e
    refine run_seq (N1 := (· = (fr0 [.str (num n)] 3).set 1 (.da (.int (n : Int))))) (run_set (p := (· = .int (n : Int))) (ed_cb (ea_1 (eg_var rfl)) (rc_intS (num_int hn) (by omega) rfl)) rfl rfl fun d e => by rw [e]) fun G1 e => ?_
    subst e
    refine run_ret (eg_if (p := (· = true)) ?_ (fun _ => eg_var rfl) fun z => nomatch z)
    refine et_imp (et_and1 (a := true) (b := true) ?_ fun _ => ?_) fun b e => by rw [e]; rfl
    · refine et_imp (et_tst1 (ed_eqS (ed_cb (ea_1 (eg_var rfl)) (rc_strI (log2_small (by rw [Int.natAbs_natCast]; omega)) rfl)) (eg_var rfl))) fun b e => ?_
      rw [e]
      exact decide_eq_true rfl
    · refine et_imp (et_tst1 (ed_le (j := 1000000000000) (eg_var rfl) eg_int)) fun b e => ?_
      rw [e]
      exact decide_eq_true (by omega)
/-! ### part_of -/
structure PtIn where
  p : Pt
  ns : List Str
def PtIn.ok (a : PtIn) : Prop := a.p.ok a.ns ∧ NamesOk a.ns ∧ a.ns.length ≤ 100
abbrev sp_part_of (K : KX) : Sp := spX K (fun a : PtIn => [Dt.str a.p.txt, .lst (strsD a.ns)]) PtIn.ok (fun a e => e = a.p.d)
theorem ok_part_of {f : Addr} {fd : FuncData} (F : Fun K "part_of" "part_of" s_part_of f fd) (B : Bf K mg aS aO) (c_integer_of : Cal P w K mg base 1 "integer_of" (sp_integer_of K)) :
    FnOk P w K mg base CX0 2 f fd A_part_of (sp_part_of K) := by
  refine fn_x F sc_part_of (fun _ => rfl) fun cdv A outer s H E hr => ⟨_, (pss_one (ps_ret (pe_ifExp (pt_cmpR (op_inK (K := K)) (pv 0) (pv 1) rfl) (pv 0) (pe_c c_integer_of hr (by decide) (by rfl) (pa_cons (pv 0) pa_nil))))), fun a ha => ?_⟩
  obtain ⟨p, ns⟩ := a
  obtain ⟨h1, h2, h3⟩ := ha
  refine run_ret (eg_if (et_tst1 (ed_inS false (eg_var rfl) (eg_var rfl))) (fun z => ?_) fun z => ?_)
  · cases p with
    | nm x => exact eg_var rfl
    | nu n => exact absurd rfl (num_not_name (h2 _ (of_decide_eq_true z.symm)))
  · cases p with
    | nm x => exact absurd (show x ∈ ns from h1) (of_decide_eq_false z.symm)
    | nu n => exact ed_callX (out := fun n : Nat => Dt.int (n : Int)) n (ea_1 (eg_var rfl)) h1
end
end Sb

set_option Elab.async false
set_option linter.all false
set_option maxRecDepth 100000
set_option autoImplicit false
namespace Sb
open PySem PySem.Spec PyProof.Rows L2 TL
abbrev s_condition_of : Stmt := top 27
abbrev N_condition_of : List Str := ["text", "names", "words", "left", "right"]
abbrev A_condition_of : List Str := ["text", "names"]
theorem sc_condition_of : FnScope N_condition_of A_condition_of (defScope s_condition_of) :=
  ⟨rfl, rfl, rfl, by decide +kernel, rfl, by decide +kernel, by decide +kernel⟩
abbrev s_done_of : Stmt := top 28
abbrev N_done_of : List Str := ["text", "seats", "names", "words", "who", "price"]
abbrev A_done_of : List Str := ["text", "seats", "names"]
theorem sc_done_of : FnScope N_done_of A_done_of (defScope s_done_of) :=
  ⟨rfl, rfl, rfl, by decide +kernel, rfl, by decide +kernel, by decide +kernel⟩
abbrev s_step_of : Stmt := top 29
abbrev N_step_of : List Str := ["row", "seats", "names", "is_last", "condition", "done", "head", "mark", "rest"]
abbrev A_step_of : List Str := ["row", "seats", "names", "is_last"]
theorem sc_step_of : FnScope N_step_of A_step_of (defScope s_step_of) :=
  ⟨rfl, rfl, rfl, by decide +kernel, rfl, by decide +kernel, by decide +kernel⟩
section
variable {P : Program} {w : World} {K : KX} {mg : Str → Option Value} {base : Heap} {aS aO : Addr}
theorem Bf.signs (B : Bf K mg aS aO) (H : Hp) : Dn K H (.tup (strsD [sLt, sLe])) (.ref aS) := ⟨aS, _, rfl, B.t_SIGNS H, _, _, rfl, rfl, _, _, rfl, rfl, rfl⟩
theorem at1 {α : Type} {a c : α} {r : List α} : atI (a :: c :: r) 1 = some c := atI_nat (j := 1) rfl
theorem at2 {α : Type} {a b c : α} {r : List α} : atI (a :: b :: c :: r) 2 = some c := atI_nat (j := 2) rfl
theorem at3 {α : Type} {a b c d : α} {r : List α} : atI (a :: b :: c :: d :: r) 3 = some d := atI_nat (j := 3) rfl
/-! ### condition_of -/
structure CondIn where
  c : Cond
  ns : List Str
def CondIn.ok (a : CondIn) : Prop := a.c.ok a.ns ∧ NamesOk a.ns ∧ a.ns.length ≤ 100
abbrev sp_condition_of (K : KX) : Sp := spX K (fun a : CondIn => [Dt.str a.c.txt, .lst (strsD a.ns)]) CondIn.ok (fun a e => e = a.c.d)
theorem Pt.notN (p : Pt) : p.d.isN = false := by cases p <;> rfl
theorem ok_condition_of {f : Addr} {fd : FuncData} (F : Fun K "condition_of" "condition_of" s_condition_of f fd) (B : Bf K mg aS aO) (c_part_of : Cal P w K mg base 2 "part_of" (sp_part_of K)) :
    FnOk P w K mg base CX0 3 f fd A_condition_of (sp_condition_of K) := by
  refine fn_x F sc_condition_of (fun _ => rfl) fun cdv A outer s H E hr => ⟨_, (pss_cons (ps_set (i := 2) sc_condition_of.nd rfl (Or.inl rfl) (pe_split (pv 0) pe_str)) (pss_cons (ps_if ((pw_or (pt_cmpR (op_neK (K := K) hr.units) (pe_callB (call_lenK (K := K)) (by rfl) B.n_len (by decide +kernel) (pa_cons (pv 2) pa_nil)) pe_int (nomark _)) (pw_or (pt_cmpR (op_neK (K := K) hr.units) (pe_ix (ix_anyK (K := K)) (pv 2) pe_int (fun _ _ => rfl)) pe_str (nomark _)) (pw_or1 (pt_cmpR (op_niK (K := K)) (pe_ix (ix_anyK (K := K)) (pv 2) pe_int (fun _ _ => rfl)) (pe_gc (by rfl) B.g_SIGNS) rfl))))).pt (pss_one (ps_ret pe_non)) pss_nil) (pss_cons (ps_set (i := 3) sc_condition_of.nd rfl (Or.inl rfl) (pe_c c_part_of hr (by decide) (by rfl) (pa_cons (pe_ix (ix_anyK (K := K)) (pv 2) pe_int (fun _ _ => rfl)) (pa_cons (pv 1) pa_nil)))) (pss_cons (ps_set (i := 4) sc_condition_of.nd rfl (Or.inl rfl) (pe_c c_part_of hr (by decide) (by rfl) (pa_cons (pe_ix (ix_anyK (K := K)) (pv 2) pe_int (fun _ _ => rfl)) (pa_cons (pv 1) pa_nil)))) (pss_cons (ps_if ((pw_or (pt_cmpR op_isN1 (pv 3) pe_non (nomark _)) (pw_or1 (pt_cmpR op_isN1 (pv 4) pe_non (nomark _))))).pt (pss_one (ps_ret pe_non)) pss_nil) (pss_one (ps_ret (pe_tup (pa_cons (pv 3) (pa_cons (pe_ix (ix_anyK (K := K)) (pv 2) pe_int (fun _ _ => rfl)) (pa_cons (pv 4) pa_nil))))))))))), fun a ha => ?_⟩
  obtain ⟨c, ns⟩ := a
  obtain ⟨h1, h2, h3⟩ := ha
  have hw : ∀ x ∈ c.ws, Word x := Cond.words h2 h1
  have hl : c.txt.length ≤ 21 * 4 := jn_len hw
  have hsp : Txt.split c.txt sp1 = c.ws := split_jn (by simp [Cond.ws]) hw
  refine q_set (d := .lst (strsD c.ws)) (eg_m1 (x := c.txt) (y := .str sp1) (eg_var rfl) eg_str (rm_split rfl (by omega) (by rw [hsp]))) ?_
  refine q_no (et_eq (et_or1 (et_tst1 (ed_neI (i := 4) (ed_cb (ea_1 (eg_var rfl)) (rc_len (n := 4) (d := .lst (strsD c.ws)) rfl (by decide) rfl)) eg_int)) fun _ => et_or1 (b := false) (et_tst1 (ed_neS (ed_ixL (ds := strsD c.ws) (eg_var rfl) eg_int at0) eg_str)) fun _ =>
    et_eq (et_tst1 (ed_niS (ys := [sLt, sLe]) true (ed_ixL (ds := strsD c.ws) (d := .str c.sg) (eg_var rfl) eg_int at2) (eg_c fun H => B.signs H))) ?_) ?_) ?_
  · unfold Cond.sg
    cases c.st <;> decide +kernel
  · decide +kernel
  · refine q_set (d := c.p.d) (ed_callX (out := fun a : PtIn => a.p.d) ⟨c.p, ns⟩ (ea_2 (ed_ixL (ds := strsD c.ws) (d := .str c.p.txt) (eg_var rfl) eg_int at1) (eg_var rfl)) ⟨h1.1, h2, h3⟩) ?_
    refine q_set (d := c.q.d) (ed_callX (out := fun a : PtIn => a.p.d) ⟨c.q, ns⟩ (ea_2 (ed_ixL (ds := strsD c.ws) (d := .str c.q.txt) (eg_var rfl) eg_int at3) (eg_var rfl)) ⟨h1.2, h2, h3⟩) ?_
    refine q_no (et_eq (et_or1 (et_tst1 (ed_isN (x := c.p.d) (eg_var rfl))) fun _ => et_tst1 (ed_isN (x := c.q.d) (eg_var rfl))) (by rw [c.p.notN, c.q.notN]; rfl)) ?_
    exact run_ret (ed_tup (ea_3 (eg_var rfl) (ed_ixL (ds := strsD c.ws) (d := .str c.sg) (eg_var rfl) eg_int at2) (eg_var rfl)))
/-! ### place_of: not called where seats are named -/
abbrev sp_place_of (K : KX) : Sp := spX K (fun a : Nat × Nat => [Dt.str (num a.1), .int (a.2 : Int)]) (fun a => 1 ≤ a.1 ∧ a.1 ≤ a.2 ∧ a.2 ≤ 9) (fun a e => e = .int (a.1 : Int))
theorem num_one {n : Nat} (h : n ≤ 9) : num n = ⟨#[48 + n]⟩ := by
  have e : cs (num n) = [48 + n] := by rw [cs_num]; exact numL_lt (by omega)
  exact ext_tl (show tl (num n) = tl ⟨#[48 + n]⟩ from e)
theorem ok_place_of {f : Addr} {fd : FuncData} (F : Fun K "place_of" "place_of" s_place_of f fd) (B : Bf K mg aS aO) : FnOk P w K mg base CX0 1 f fd A_place_of (sp_place_of K) := by
  refine fn_x F sc_place_of (fun _ => rfl) fun cdv A outer s H E hr => ⟨_, (pss_cons (ps_if ((pw_or (pt_cmpR (op_neK (K := K) hr.units) (pe_callB (call_lenK (K := K)) (by rfl) B.n_len (by decide +kernel) (pa_cons (pv 0) pa_nil)) pe_int (nomark _)) (pw_or1 (pt_cmpR (op_niK (K := K)) (pv 0) (pe_gc (by rfl) B.g_DIGITS) rfl)))).pt (pss_one (ps_ret pe_non)) pss_nil) (pss_cons (ps_set (i := 2) sc_place_of.nd rfl (Or.inl rfl) (pe_callTy call_intA (by rfl) B.n_int (by decide +kernel) (pa_cons (pv 0) pa_nil))) (pss_one (ps_ret (pe_ifExp (pt_chain op_le op_le pe_int (pv 2) (pv 1)) (pv 2) pe_non))))), fun a ha => ?_⟩
  obtain ⟨n, m⟩ := a
  obtain ⟨h1, h2, h3⟩ := ha
  have h1 : 1 ≤ n := h1
  have h2 : n ≤ m := h2
  have h3 : m ≤ 9 := h3
  have e : num n = ⟨#[48 + n]⟩ := num_one (by omega)
  have hl : (num n).length = 1 := by rw [e]; rfl
  refine q_no (et_eq (et_or1 (et_tst1 (ed_neI (j := 1) (ed_cb (ea_1 (eg_var rfl)) (rc_len (n := 1) (d := .str (num n)) (by show some _ = some _; rw [hl]) (by decide) rfl)) eg_int)) fun _ => et_tst1 (ed_niSg (c := 48 + n) (z := sDigits) (eg_eq (eg_var rfl) (by rw [e])) eg_str)) ?_) ?_
  · rw [decide_eq_true ((mem_digits _).mpr (by unfold isDig; omega))]
    rfl
  · refine q_set (d := .int (n : Int)) (ed_cb (ea_1 (eg_var rfl)) (rc_intS (num_int (by omega)) (by show (num n).length ≤ 640; omega) rfl)) ?_
    exact run_ret (eg_if (p := (· = true)) (et_eq (et_chain (i := 1) (j := (n : Int)) (l := (m : Int)) eg_int (eg_var rfl) (eg_var rfl)) (by rw [decide_eq_true (by omega), decide_eq_true (by omega)]; rfl)) (fun _ => eg_var rfl) fun z => (Bool.false_ne_true z).elim)
/-! ### done_of -/
structure DeedIn where
  d : Deed
  seats : List Str
  ns : List Str
def DeedIn.ok (a : DeedIn) : Prop := a.d.ok a.seats a.ns ∧ NamesOk a.seats ∧ a.seats.length ≤ 9 ∧ NamesOk a.ns ∧ a.ns.length ≤ 100
abbrev sp_done_of (K : KX) : Sp := spX K (fun a : DeedIn => [Dt.str a.d.txt, .tup (strsD a.seats), .lst (strsD a.ns)]) DeedIn.ok (fun a e => e = a.d.d)
theorem Who.notN (p : Who) : p.d.isN = false := by cases p <;> rfl
theorem ok_done_of {f : Addr} {fd : FuncData} (F : Fun K "done_of" "done_of" s_done_of f fd) (B : Bf K mg aS aO) (c_part_of : Cal P w K mg base 2 "part_of" (sp_part_of K)) (c_place_of : Cal P w K mg base 1 "place_of" (sp_place_of K)) :
    FnOk P w K mg base CX0 3 f fd A_done_of (sp_done_of K) := by
  refine fn_x F sc_done_of (fun _ => rfl) fun cdv A outer s H E hr => ⟨_, (pss_cons (ps_if (pt_cmpR (op_eqK (K := K) hr.units) (pv 0) pe_str (nomark _)) (pss_one (ps_ret (pe_tup (pa_cons pe_str pa_nil)))) pss_nil) (pss_cons (ps_set (i := 3) sc_done_of.nd rfl (Or.inl rfl) (pe_split (pv 0) pe_str)) (pss_cons (ps_if ((pw_or (pt_cmpR (op_neK (K := K) hr.units) (pe_callB (call_lenK (K := K)) (by rfl) B.n_len (by decide +kernel) (pa_cons (pv 3) pa_nil)) pe_int (nomark _)) (pw_or (pt_cmpR (op_neK (K := K) hr.units) (pe_ix (ix_anyK (K := K)) (pv 3) pe_int (fun _ _ => rfl)) pe_str (nomark _)) (pw_or1 (pt_cmpR (op_neK (K := K) hr.units) (pe_ix (ix_anyK (K := K)) (pv 3) pe_int (fun _ _ => rfl)) pe_str (nomark _)))))).pt (pss_one (ps_ret pe_non)) pss_nil) (pss_cons (ps_set (i := 4) sc_done_of.nd rfl (Or.inl rfl) (pe_ifExp (pt_cmpR (op_inK (K := K)) (pe_ix (ix_anyK (K := K)) (pv 3) pe_int (fun _ _ => rfl)) (pv 1) rfl) (pe_ix (ix_anyK (K := K)) (pv 3) pe_int (fun _ _ => rfl)) (pe_c c_place_of hr (by decide) (by rfl) (pa_cons (pe_ix (ix_anyK (K := K)) (pv 3) pe_int (fun _ _ => rfl)) (pa_cons (pe_callB (call_lenK (K := K)) (by rfl) B.n_len (by decide +kernel) (pa_cons (pv 1) pa_nil)) pa_nil))))) (pss_cons (ps_set (i := 5) sc_done_of.nd rfl (Or.inl rfl) (pe_c c_part_of hr (by decide) (by rfl) (pa_cons (pe_ix (ix_anyK (K := K)) (pv 3) pe_int (fun _ _ => rfl)) (pa_cons (pv 2) pa_nil)))) (pss_cons (ps_if ((pw_or (pt_cmpR op_isN1 (pv 4) pe_non (nomark _)) (pw_or1 (pt_cmpR op_isN1 (pv 5) pe_non (nomark _))))).pt (pss_one (ps_ret pe_non)) pss_nil) (pss_one (ps_ret (pe_tup (pa_cons pe_str (pa_cons (pv 4) (pa_cons (pv 5) pa_nil)))))))))))), fun a ha => ?_⟩
  obtain ⟨dd, seats, ns⟩ := a
  obtain ⟨h1, h2, h3, h4, h5⟩ := ha
  have h1 : dd.ok seats ns := h1
  have h3 : seats.length ≤ 9 := h3
  cases dd with
  | keep =>
    refine q_yes (et_eq (et_tst1 (ed_eqS (i := (Deed.keep).txt) (j := sKeep) (eg_var rfl) eg_str)) ?_) ?_
    · exact decide_eq_true (jn_one sKeep)
    · exact run_ret (ed_tup (ea_1 eg_str))
  | sell ww p =>
    have hw : ∀ x ∈ (Deed.sell ww p).ws, Word x := Deed.words h2 h3 h4 h1
    have hl : (Deed.sell ww p).txt.length ≤ 21 * 4 := jn_len hw
    have hsp : Txt.split (Deed.sell ww p).txt sp1 = (Deed.sell ww p).ws := split_jn (by simp [Deed.ws]) hw
    refine q_no (et_eq (et_tst1 (ed_eqS (i := (Deed.sell ww p).txt) (j := sKeep) (eg_var rfl) eg_str)) (decide_eq_false (sell_ne_keep h2 h3 h4 h1))) ?_
    refine q_set (d := .lst (strsD (Deed.sell ww p).ws)) (eg_m1 (x := (Deed.sell ww p).txt) (y := .str sp1) (eg_var rfl) eg_str (rm_split rfl (by omega) (by rw [hsp]))) ?_
    refine q_no (et_eq (et_or1 (et_tst1 (ed_neI (i := 4) (ed_cb (ea_1 (eg_var rfl)) (rc_len (n := 4) (d := .lst (strsD (Deed.sell ww p).ws)) rfl (by decide) rfl)) eg_int)) fun _ => et_or1 (et_tst1 (ed_neS (ed_ixL (ds := strsD (Deed.sell ww p).ws) (eg_var rfl) eg_int at0) eg_str)) fun _ =>
      et_tst1 (ed_neS (ed_ixL (ds := strsD (Deed.sell ww p).ws) (eg_var rfl) eg_int at2) eg_str)) (by decide +kernel)) ?_
    refine q_set (d := ww.d) ?_ ?_
    · refine eg_if (et_tst1 (ed_inS true (ed_ixL (ds := strsD (Deed.sell ww p).ws) (d := .str ww.txt) (eg_var rfl) eg_int at1) (eg_var rfl))) (fun z => ?_) fun z => ?_
      · cases ww with
        | seat x => exact ed_ixL (ds := strsD (Deed.sell (.seat x) p).ws) (eg_var rfl) eg_int at1
        | place k => exact absurd rfl (num_not_name (h2 _ (of_decide_eq_true z.symm)))
      · cases ww with
        | seat x => exact absurd (show x ∈ seats from h1.1) (of_decide_eq_false z.symm)
        | place k => exact ed_callX (out := fun a : Nat × Nat => Dt.int (a.1 : Int)) (k, seats.length) (ea_2 (ed_ixL (ds := strsD (Deed.sell (.place k) p).ws) (d := .str (num k)) (eg_var rfl) eg_int at1) (ed_cb (ea_1 (eg_var rfl)) (rc_len (n := seats.length) (d := .tup (strsD seats)) (by show some _ = some _; unfold strsD; rw [List.length_map]) (by omega) rfl))) ⟨h1.1.1, h1.1.2, h3⟩
    · refine q_set (d := p.d) (ed_callX (out := fun a : PtIn => a.p.d) ⟨p, ns⟩ (ea_2 (ed_ixL (ds := strsD (Deed.sell ww p).ws) (d := .str p.txt) (eg_var rfl) eg_int at3) (eg_var rfl)) ⟨h1.2, h4, h5⟩) ?_
      refine q_no (et_eq (et_or1 (et_tst1 (ed_isN (x := ww.d) (eg_var rfl))) fun _ => et_tst1 (ed_isN (x := p.d) (eg_var rfl))) (by rw [ww.notN, p.notN]; rfl)) ?_
      exact run_ret (ed_tup (ea_3 eg_str (eg_var rfl) (eg_var rfl)))
/-! ### step_of -/
structure RowIn where
  r : Row
  seats : List Str
  ns : List Str
def RowIn.ok (a : RowIn) : Prop := a.r.ok a.seats a.ns ∧ NamesOk a.seats ∧ a.seats.length ≤ 9 ∧ NamesOk a.ns ∧ a.ns.length ≤ 100
abbrev sp_step_of (K : KX) : Sp := spX K (fun a : RowIn => [Dt.str a.r.txt, .tup (strsD a.seats), .lst (strsD a.ns), .bl a.r.c.isNone]) RowIn.ok (fun a e => e = a.r.dt)
theorem Deed.notN (p : Deed) : p.d.isN = false := by cases p <;> rfl
theorem ok_step_of {f : Addr} {fd : FuncData} (F : Fun K "step_of" "step_of" s_step_of f fd) (B : Bf K mg aS aO) (c_condition_of : Cal P w K mg base 3 "condition_of" (sp_condition_of K)) (c_done_of : Cal P w K mg base 3 "done_of" (sp_done_of K)) :
    FnOk P w K mg base CX0 4 f fd A_step_of (sp_step_of K) := by
  refine fn_x F sc_step_of (fun _ => rfl) fun cdv A outer s H E hr => ⟨_, (pss_cons (ps_if (pt_not (pt_val (pe_callB (call_isiQ (K := K)) (by rfl) B.n_isinstance (by decide +kernel) (pa_cons (pv 0) (pa_cons (pe_bltn (v := .ty "str") (by rfl) B.n_str (by decide +kernel) rfl) pa_nil))))) (pss_one (ps_ret pe_non)) pss_nil) (pss_cons (ps_if (pt_truth (pv 3) (by intro _; rfl)) (pss_cons (ps_set (i := 5) sc_step_of.nd rfl (Or.inl rfl) (pe_c c_done_of hr (by decide) (by rfl) (pa_cons (pv 0) (pa_cons (pv 1) (pa_cons (pv 2) pa_nil))))) (pss_one (ps_ret (pe_ifExp (pt_cmpR op_isN1 (pv 5) pe_non (nomark _)) pe_non (pe_tup (pa_cons pe_non (pa_cons (pv 5) pa_nil))))))) pss_nil) (pss_cons (ps_asg (pe_partition (pv 0) pe_str) (pg_tup rfl (pgs_cons (pg_name (i := 6) sc_step_of.nd rfl (Or.inl rfl)) (pgs_cons (pg_name (i := 7) sc_step_of.nd rfl (Or.inl rfl)) (pgs_cons (pg_name (i := 8) sc_step_of.nd rfl (Or.inl rfl)) pgs_nil))))) (pss_cons (ps_set (i := 4) sc_step_of.nd rfl (Or.inl rfl) (pe_c c_condition_of hr (by decide) (by rfl) (pa_cons (pv 6) (pa_cons (pv 2) pa_nil)))) (pss_cons (ps_set (i := 5) sc_step_of.nd rfl (Or.inl rfl) (pe_c c_done_of hr (by decide) (by rfl) (pa_cons (pv 8) (pa_cons (pv 1) (pa_cons (pv 2) pa_nil))))) (pss_cons (ps_if ((pw_or (pt_cmpR op_isN1 (pv 4) pe_non (nomark _)) (pw_or1 (pt_cmpR op_isN1 (pv 5) pe_non (nomark _))))).pt (pss_one (ps_ret pe_non)) pss_nil) (pss_one (ps_ret (pe_tup (pa_cons (pv 4) (pa_cons (pv 5) pa_nil))))))))))), fun a ha => ?_⟩
  obtain ⟨⟨oc, dd⟩, seats, ns⟩ := a
  obtain ⟨⟨h0, h1⟩, h2, h3, h4, h5⟩ := ha
  have h3 : seats.length ≤ 9 := h3
  have hd : dd.txt.length ≤ 21 * 4 := Nat.le_trans (jn_len (Deed.words h2 h3 h4 h0)) (by cases dd <;> simp [Deed.ws])
  refine q_no (et_not1 (a := true) (et_B1 (eg_isi (d := .str _) (eg_var rfl) rfl (by decide +kernel)))) ?_
  cases oc with
  | none =>
    refine q_yes (et_tru (d := .bl true) (eg_var rfl) rfl) ?_
    refine q_set (d := dd.d) (ed_callX (out := fun a : DeedIn => a.d.d) ⟨dd, seats, ns⟩ (ea_3 (eg_var rfl) (eg_var rfl) (eg_var rfl)) ⟨h0, h2, h3, h4, h5⟩) ?_
    exact run_ret (eg_if (p := (· = false)) (et_eq (et_tst1 (ed_isN (x := dd.d) (eg_var rfl))) dd.notN) (fun z => (Bool.false_ne_true z.symm).elim) fun _ => ed_tup (ea_2 eg_non (eg_var rfl)))
  | some c =>
    have hc : c.ok ns := h1 c rfl
    have hcl : c.txt.length ≤ 21 * 4 := jn_len (Cond.words h4 hc)
    have hp := row_part h4 hc dd.txt
    refine q_no (et_tru (d := .bl false) (eg_var rfl) rfl) ?_
    refine run_seq (N1 := (· = (((fr0 [Dt.str (c.txt ++ sColon ++ dd.txt), .tup (strsD seats), .lst (strsD ns), .bl false] 9).set 6 (.da (.str c.txt))).set 7 (.da (.str sColon))).set 8 (.da (.str dd.txt)))) (run_asg (p := (· = .tup [.str c.txt, .str sColon, .str dd.txt])) [6, 7, 8] ?_ fun d e => ⟨_, ?_, rfl⟩) fun G1 e => ?_
    · refine eg_m1 (x := c.txt ++ sColon ++ dd.txt) (y := .str sColon) (eg_var rfl) eg_str (rm_partition rfl ?_ (by rw [hp]))
      rw [Str.length_append, Str.length_append]
      have : sColon.length = 2 := by decide +kernel
      omega
    · subst e
      exact gg_three rfl rfl rfl rfl rfl rfl (by decide) (by decide) (by decide) (by simp) (by simp) (by simp)
    · subst e
      refine q_set (d := c.d) (ed_callX (out := fun a : CondIn => a.c.d) ⟨c, ns⟩ (ea_2 (eg_var rfl) (eg_var rfl)) ⟨hc, h4, h5⟩) ?_
      refine q_set (d := dd.d) (ed_callX (out := fun a : DeedIn => a.d.d) ⟨dd, seats, ns⟩ (ea_3 (eg_var rfl) (eg_var rfl) (eg_var rfl)) ⟨h0, h2, h3, h4, h5⟩) ?_
      refine q_no (et_eq (et_or1 (et_tst1 (ed_isN (x := c.d) (eg_var rfl))) fun _ => et_tst1 (ed_isN (x := dd.d) (eg_var rfl))) (by rw [dd.notN]; rfl)) ?_
      exact run_ret (ed_tup (ea_2 (eg_var rfl) (eg_var rfl)))
end
end Sb

set_option Elab.async false
set_option linter.all false
set_option maxRecDepth 100000
set_option autoImplicit false
namespace Sb
open PySem PySem.Spec PyProof.Rows L2 TL
abbrev s_check_seats : Stmt := top 32
abbrev N_check_seats : List Str := ["seats", "at", "seat"]
abbrev A_check_seats : List Str := ["seats"]
theorem sc_check_seats : FnScope N_check_seats A_check_seats (defScope s_check_seats) :=
  ⟨rfl, rfl, rfl, by decide +kernel, rfl, by decide +kernel, by decide +kernel⟩
abbrev s_check_lines : Stmt := top 33
abbrev N_check_lines : List Str := ["lines", "seats", "at", "line"]
abbrev A_check_lines : List Str := ["lines", "seats"]
theorem sc_check_lines : FnScope N_check_lines A_check_lines (defScope s_check_lines) :=
  ⟨rfl, rfl, rfl, by decide +kernel, rfl, by decide +kernel, by decide +kernel⟩
abbrev s_names_of : Stmt := top 36
abbrev N_names_of : List Str := ["seats", "lines", "line"]
abbrev A_names_of : List Str := ["seats", "lines"]
theorem sc_names_of : FnScope N_names_of A_names_of (defScope s_names_of) :=
  ⟨rfl, rfl, rfl, by decide +kernel, rfl, by decide +kernel, by decide +kernel⟩
abbrev s_read_terms : Stmt := top 37
abbrev N_read_terms : List Str := ["lines", "seats", "terms", "at", "line", "term"]
abbrev A_read_terms : List Str := ["lines", "seats"]
theorem sc_read_terms : FnScope N_read_terms A_read_terms (defScope s_read_terms) :=
  ⟨rfl, rfl, rfl, by decide +kernel, rfl, by decide +kernel, by decide +kernel⟩
abbrev s_read_steps : Stmt := top 38
abbrev N_read_steps : List Str := ["rows", "seats", "names", "steps", "at", "row", "step"]
abbrev A_read_steps : List Str := ["rows", "seats", "names"]
theorem sc_read_steps : FnScope N_read_steps A_read_steps (defScope s_read_steps) :=
  ⟨rfl, rfl, rfl, by decide +kernel, rfl, by decide +kernel, by decide +kernel⟩
abbrev s_text_of : Stmt := top 40
abbrev N_text_of : List Str := ["seats", "lines", "rows", "head", "name", "term"]
abbrev A_text_of : List Str := ["seats", "lines", "rows"]
theorem sc_text_of : FnScope N_text_of A_text_of (defScope s_text_of) :=
  ⟨rfl, rfl, rfl, by decide +kernel, rfl, by decide +kernel, by decide +kernel⟩
abbrev s_check_bids : Stmt := top 34
abbrev N_check_bids : List Str := ["bids", "seats", "at", "bid"]
abbrev A_check_bids : List Str := ["bids", "seats"]
theorem sc_check_bids : FnScope N_check_bids A_check_bids (defScope s_check_bids) :=
  ⟨rfl, rfl, rfl, by decide +kernel, rfl, by decide +kernel, by decide +kernel⟩
abbrev s_part_worth : Stmt := top 41
abbrev N_part_worth : List Str := ["part", "worths"]
abbrev A_part_worth : List Str := ["part", "worths"]
theorem sc_part_worth : FnScope N_part_worth A_part_worth (defScope s_part_worth) :=
  ⟨rfl, rfl, rfl, by decide +kernel, rfl, by decide +kernel, by decide +kernel⟩
abbrev s_holds : Stmt := top 43
abbrev N_holds : List Str := ["condition", "worths", "left", "sign", "right"]
abbrev A_holds : List Str := ["condition", "worths"]
theorem sc_holds : FnScope N_holds A_holds (defScope s_holds) :=
  ⟨rfl, rfl, rfl, by decide +kernel, rfl, by decide +kernel, by decide +kernel⟩
abbrev s_standing : Stmt := top 44
abbrev N_standing : List Str := ["seats", "bids", "places", "at"]
abbrev A_standing : List Str := ["seats", "bids"]
theorem sc_standing : FnScope N_standing A_standing (defScope s_standing) :=
  ⟨rfl, rfl, rfl, by decide +kernel, rfl, by decide +kernel, by decide +kernel⟩
abbrev s_sale : Stmt := top 45
abbrev N_sale : List Str := ["done", "seats", "bids", "worths", "who"]
abbrev A_sale : List Str := ["done", "seats", "bids", "worths"]
theorem sc_sale : FnScope N_sale A_sale (defScope s_sale) :=
  ⟨rfl, rfl, rfl, by decide +kernel, rfl, by decide +kernel, by decide +kernel⟩
section
variable {P : Program} {w : World} {K : KX} {mg : Str → Option Value} {base : Heap} {aS aO : Addr}
/-! ### check_seats -/
structure SeatsOk (xs : List Str) : Prop where
  n1 : 1 ≤ xs.length
  n4 : xs.length ≤ 4
  ok : NamesOk xs
  nd : xs.Nodup
abbrev sp_check_seats (K : KX) : Sp := spX K (fun a : List Str => [Dt.tup (strsD a)]) SeatsOk (fun _ e => e = .non)
theorem ok_check_seats {f : Addr} {fd : FuncData} (F : Fun K "check_seats" "check_seats" s_check_seats f fd) (B : Bf K mg aS aO) (c_is_name : Cal P w K mg base 1 "is_name" (sp_is_name K)) :
    FnOk P w K mg base CX0 2 f fd A_check_seats (sp_check_seats K) := by
  refine fn_x F sc_check_seats (fun _ => rfl) fun cdv A outer s H E hr => ⟨_, (pss_cons (ps_if ((pw_or (pt_not (pt_val (pe_callB (call_isiQ (K := K)) (by rfl) B.n_isinstance (by decide +kernel) (pa_cons (pv 0) (pa_cons (pe_bltn (v := .ty "tuple") (by rfl) B.n_tuple (by decide +kernel) rfl) pa_nil))))) (pw_or1 (pt_not (pt_truth (pv 0) (by intro _; rfl)))))).pt (pss_one ps_never) pss_nil) (pss_one (ps_for PassesOwn.never rfl (pi_enT rfl B.n_enumerate (pa_cons (pv 0) pa_nil)) (pg_tup rfl (pgs_cons (pg_name (i := 1) sc_check_seats.nd rfl (Or.inl rfl)) (pgs_cons (pg_name (i := 2) sc_check_seats.nd rfl (Or.inl rfl)) pgs_nil))) (pss_one (ps_if ((pw_or (pt_cmpR (op_eqK (K := K) hr.units) (pv 1) (pe_gc (by rfl) B.g_MOST_SEATS) (nomark _)) (pw_or (pt_not (pt_val (pe_c c_is_name hr (by decide) (by rfl) (pa_cons (pv 2) pa_nil)))) (pw_or1 (pt_cmpR (op_inK (K := K)) (pv 2) (pe_slice (sl_anyK (K := K)) (pv 0) po_none (po_some (pv 1))) rfl))))).pt (pss_one ps_never) pss_nil))))), fun xs h => ?_⟩
  refine q_no (et_eq (et_or1 (et_not1 (a := true) (et_B1 (eg_isi (d := .tup (strsD xs)) (eg_var rfl) rfl (by decide +kernel)))) fun _ => et_not1 (a := true) (et_tru (d := .tup (strsD xs)) (eg_var rfl) ?_)) rfl) ?_
  · cases xs with
    | nil => exact absurd h.n1 (by simp)
    | cons _ _ => rfl
  · refine run_forD (fun i G => ∃ s t, G = [.da (.tup (strsD xs)), s, t] ∧ s.ad = none ∧ t.ad = none) (wk_enT (ds := strsD xs) (ea_1 (eg_var rfl))) ⟨_, _, rfl, rfl, rfl⟩ (fun i d G1 hd hI => ?_) fun G1 _ => rfl
    obtain ⟨s, t, rfl, hs, ht⟩ := hI
    obtain ⟨x, hx, rfl⟩ := enumS_get hd
    have hlt : i < xs.length := (List.getElem?_eq_some_iff.mp hx).1
    have h4 := h.n4
    refine ⟨[1, 2], _, gg_two rfl hs rfl ht (by decide) (by simp) (by simp), l_no (et_eq (et_or1 (a := false) (et_eq (et_tst1 (ed_eqI (eg_var rfl) (eg_int (i := 4)))) (decide_eq_false (by omega))) fun _ => et_or1 (a := false) (et_not1 (a := true) (et_B1 (eg_callX (post := fun _ e => e = .bl true) x (ea_1 (eg_var rfl)) (h.ok x (List.mem_of_getElem? hx)) fun _ e => e))) fun _ =>
      et_eq (et_tst1 (ed_inS true (eg_var rfl) (eg_eq (eg_takeT (ds := strsD xs) (k := i) (eg_var rfl) (eg_var rfl) (by rw [strsD_len]; exact hlt)) (by rw [strsD_take]; rfl)))) (decide_eq_false (nodup_take h.nd hx))) rfl) ⟨_, _, rfl, rfl, rfl⟩⟩
/-! ### lines: none here -/
abbrev sp_check_lines (K : KX) : Sp := spX K (fun a : List Str => [Dt.tup [], .tup (strsD a)]) SeatsOk (fun _ e => e = .non)
theorem ok_check_lines {f : Addr} {fd : FuncData} {sp1' sp2' : Sp} (F : Fun K "check_lines" "check_lines" s_check_lines f fd) (B : Bf K mg aS aO) (c_is_line : Cal P w K mg base 2 "is_line" sp1') (c_names_of : Cal P w K mg base 1 "names_of" sp2') :
    FnOk P w K mg base CX0 3 f fd A_check_lines (sp_check_lines K) := by
  refine fn_x F sc_check_lines (fun _ => rfl) fun cdv A outer s H E hr => ⟨_, (pss_cons (ps_if (pt_not (pt_val (pe_callB (call_isiQ (K := K)) (by rfl) B.n_isinstance (by decide +kernel) (pa_cons (pv 0) (pa_cons (pe_bltn (v := .ty "tuple") (by rfl) B.n_tuple (by decide +kernel) rfl) pa_nil))))) (pss_one ps_never) pss_nil) (pss_one (ps_for PassesOwn.never rfl (pi_enT rfl B.n_enumerate (pa_cons (pv 0) pa_nil)) (pg_tup rfl (pgs_cons (pg_name (i := 2) sc_check_lines.nd rfl (Or.inl rfl)) (pgs_cons (pg_name (i := 3) sc_check_lines.nd rfl (Or.inl rfl)) pgs_nil))) (pss_one (ps_if ((pw_or (pt_cmpR (op_eqK (K := K) hr.units) (pv 2) (pe_gc (by rfl) B.g_MOST_LINES) (nomark _)) (pw_or (pt_not (pt_val (pe_c c_is_line hr (by decide) (by rfl) (pa_cons (pv 3) pa_nil)))) (pw_or1 (pt_cmpR (op_inK (K := K)) (pe_ix (ix_anyK (K := K)) (pv 3) pe_int (fun _ _ => rfl)) (pe_c c_names_of hr (by decide) (by rfl) (pa_cons (pv 1) (pa_cons (pe_slice (sl_anyK (K := K)) (pv 0) po_none (po_some (pv 2))) pa_nil))) rfl))))).pt (pss_one ps_never) pss_nil))))), fun xs h => ?_⟩
  refine q_no (et_not1 (a := true) (et_B1 (eg_isi (d := .tup []) (eg_var rfl) rfl (by decide +kernel)))) ?_
  exact run_forD (fun i G => True) (wk_enT (ds := []) (ea_1 (eg_var rfl))) trivial (fun i d G1 hd hI => by cases hd) fun G1 _ => rfl
/-! ### names_of -/
structure NamesIn where
  seats : List Str
  lines : List (Str × Str)
def lnD (ls : List (Str × Str)) : List Dt := ls.map fun l => .tup [.str l.1, .str l.2]
abbrev sp_names_of (K : KX) : Sp := spX K (fun a : NamesIn => [Dt.tup (strsD a.seats), .tup (lnD a.lines)]) (fun a => a.seats.length ≤ 100 ∧ a.lines.length ≤ 100) (fun a e => e = .lst (strsD (a.seats ++ a.lines.map (·.1))))
theorem ok_names_of {f : Addr} {fd : FuncData} (F : Fun K "names_of" "names_of" s_names_of f fd) (B : Bf K mg aS aO) : FnOk P w K mg base CX0 1 f fd A_names_of (sp_names_of K) := by
  refine fn_x F sc_names_of (fun _ => rfl) fun cdv A outer s H E hr => ⟨_, (pss_one (ps_ret (pe_op (op_addK (K := K)) (pe_callTy (call_lstK (K := K)) (by rfl) B.n_list (by decide +kernel) (pa_cons (pv 0) pa_nil)) (pe_lc (own := [("line", 2)]) (g := gName 2) (by rfl) sc_names_of.nd (pi_anyK (K := K) (pv 1)) (blkOk_by (own := [("line", 2)]) (N := N_names_of) (sc := defScope s_names_of) (by decide +kernel)) (fun _ _ _ _ _ => (pg_name (i := 2) sc_names_of.nd rfl (Or.inl rfl))) (fun _ _ _ _ _ => pts_nil) (fun _ _ _ _ _ => (pe_ix (ix_anyK (K := K)) (pv 2) pe_int (fun _ _ => rfl))))))), fun a ha => ?_⟩
  obtain ⟨seats, lines⟩ := a
  obtain ⟨h1, h2⟩ := ha
  have h1 : seats.length ≤ 100 := h1
  have h2 : lines.length ≤ 100 := h2
  have hl : (lnD lines).length = lines.length := by unfold lnD; rw [List.length_map]
  refine run_ret (eg_eq (ed_addL (i := strsD seats) (j := (lnD lines).map fun d => match d with | .tup (x :: _) => x | _ => .non) (ed_cb (ea_1 (eg_var rfl)) (rc_lstT rfl)) (ed_lcMap rfl (wk_any1 (d := .tup (lnD lines)) (eg_var rfl) rfl) (by omega) fun d hd => ?_) ?_) ?_)
  · obtain ⟨l, _, rfl⟩ := List.mem_map.mp hd
    exact ed_ixT (ds := [.str l.1, .str l.2]) (eg_var rfl) eg_int at0
  · rw [strsD_len, List.length_map, hl]
    omega
  · unfold strsD lnD
    rw [List.map_append, List.map_map, List.map_map]
    rfl
/-! ### read_terms: none here -/
abbrev sp_read_terms (K : KX) : Sp := spX K (fun a : List Str => [Dt.tup [], .tup (strsD a)]) SeatsOk (fun _ e => e = .tup [])
theorem ok_read_terms {f : Addr} {fd : FuncData} {sp1' sp2' : Sp} (F : Fun K "read_terms" "read_terms" s_read_terms f fd) (B : Bf K mg aS aO) (c_term_of : Cal P w K mg base 3 "term_of" sp1') (c_names_of : Cal P w K mg base 1 "names_of" sp2') :
    FnOk P w K mg base CX0 4 f fd A_read_terms (sp_read_terms K) := by
  refine fn_x F sc_read_terms (fun _ => rfl) fun cdv A outer s H E hr => ⟨_, (pss_cons (ps_set (i := 2) sc_read_terms.nd rfl (Or.inl rfl) (pe_lst pa_nil)) (pss_cons (ps_for PassesOwn.never rfl (pi_enT rfl B.n_enumerate (pa_cons (pv 0) pa_nil)) (pg_tup rfl (pgs_cons (pg_name (i := 3) sc_read_terms.nd rfl (Or.inl rfl)) (pgs_cons (pg_name (i := 4) sc_read_terms.nd rfl (Or.inl rfl)) pgs_nil))) (pss_cons (ps_set (i := 5) sc_read_terms.nd rfl (Or.inl rfl) (pe_c c_term_of hr (by decide) (by rfl) (pa_cons (pe_ix (ix_anyK (K := K)) (pv 4) pe_int (fun _ _ => rfl)) (pa_cons (pe_c c_names_of hr (by decide) (by rfl) (pa_cons (pv 1) (pa_cons (pe_slice (sl_anyK (K := K)) (pv 0) po_none (po_some (pv 3))) pa_nil))) pa_nil)))) (pss_cons (ps_if (pt_cmpR op_isN1 (pv 5) pe_non (nomark _)) (pss_one ps_never) pss_nil) (pss_one (ps_expr (pe_bm PySem.F.plainAttrs_list PySem.F.slot_list_append PySem.F.type_list_append mt_append (pv 2) (pa_cons (pv 5) pa_nil))))))) (pss_one (ps_ret (pe_callTy (call_tupK (K := K)) (by rfl) B.n_tuple (by decide +kernel) (pa_cons (pv 2) pa_nil)))))), fun xs h => ?_⟩
  refine q_own fun p => ?_
  refine run_seq (N1 := (· = (fr0 [Dt.tup [], .tup (strsD xs)] 6).set 2 (.ow p []))) (run_forD (fun i G => G = (fr0 [Dt.tup [], .tup (strsD xs)] 6).set 2 (.ow p [])) (wk_enT (ds := []) (ea_1 (eg_var rfl))) rfl (fun i d G1 hd hI => by cases hd) fun G1 e => e) fun G1 e => ?_
  subst e
  exact run_ret (eg_tupO (p := p) rfl)
/-! ### read_steps -/
structure RowsIn where
  rows : List Row
  seats : List Str
  ns : List Str
structure RowsOk (seats ns : List Str) (rows : List Row) : Prop where
  n1 : 1 ≤ rows.length
  n6 : rows.length ≤ 6
  ok : ∀ r ∈ rows, r.ok seats ns
  last : ∀ (i : Nat) (r : Row), rows[i]? = some r → r.c.isNone = decide ((i : Int) = (rows.length : Int) - 1)
def RowsIn.ok (a : RowsIn) : Prop := RowsOk a.seats a.ns a.rows ∧ NamesOk a.seats ∧ a.seats.length ≤ 9 ∧ NamesOk a.ns ∧ a.ns.length ≤ 100
def txD (rows : List Row) : List Dt := strsD (rows.map Row.txt)
def stD (rows : List Row) : List Dt := rows.map Row.dt
abbrev sp_read_steps (K : KX) : Sp := spX K (fun a : RowsIn => [Dt.tup (txD a.rows), .tup (strsD a.seats), .lst (strsD a.ns)]) RowsIn.ok (fun a e => e = .tup (stD a.rows))
theorem stD_succ {rows : List Row} {i : Nat} {r : Row} (h : rows[i]? = some r) : stD (rows.take (i + 1)) = stD (rows.take i) ++ [r.dt] := by
  have hlt : i < rows.length := (List.getElem?_eq_some_iff.mp h).1
  have e : rows[i] = r := by rw [List.getElem?_eq_getElem hlt] at h; exact Option.some.inj h
  unfold stD
  rw [List.take_succ_eq_append_getElem hlt, List.map_append, e]
  rfl
theorem Row.notN (r : Row) : r.dt.isN = false := rfl
theorem ok_read_steps {f : Addr} {fd : FuncData} (F : Fun K "read_steps" "read_steps" s_read_steps f fd) (B : Bf K mg aS aO) (c_step_of : Cal P w K mg base 4 "step_of" (sp_step_of K)) :
    FnOk P w K mg base CX0 5 f fd A_read_steps (sp_read_steps K) := by
  refine fn_x F sc_read_steps (fun _ => rfl) fun cdv A outer s H E hr => ⟨_, (pss_cons (ps_if ((pw_or (pt_not (pt_val (pe_callB (call_isiQ (K := K)) (by rfl) B.n_isinstance (by decide +kernel) (pa_cons (pv 0) (pa_cons (pe_bltn (v := .ty "tuple") (by rfl) B.n_tuple (by decide +kernel) rfl) pa_nil))))) (pw_or1 (pt_not (pt_truth (pv 0) (by intro _; rfl)))))).pt (pss_one ps_never) pss_nil) (pss_cons (ps_set (i := 3) sc_read_steps.nd rfl (Or.inl rfl) (pe_lst pa_nil)) (pss_cons (ps_for PassesOwn.never rfl (pi_enT rfl B.n_enumerate (pa_cons (pv 0) pa_nil)) (pg_tup rfl (pgs_cons (pg_name (i := 4) sc_read_steps.nd rfl (Or.inl rfl)) (pgs_cons (pg_name (i := 5) sc_read_steps.nd rfl (Or.inl rfl)) pgs_nil))) (pss_cons (ps_set (i := 6) sc_read_steps.nd rfl (Or.inl rfl) (pe_c c_step_of hr (by decide) (by rfl) (pa_cons (pv 5) (pa_cons (pv 1) (pa_cons (pv 2) (pa_cons (pe_cmpR (op_eqK (K := K) hr.units) (pv 4) (pe_op op_sub (pe_callB (call_lenK (K := K)) (by rfl) B.n_len (by decide +kernel) (pa_cons (pv 0) pa_nil)) pe_int) (nomark _)) pa_nil)))))) (pss_cons (ps_if ((pw_or (pt_cmpR (op_eqK (K := K) hr.units) (pv 4) (pe_gc (by rfl) B.g_MOST_ROWS) (nomark _)) (pw_or1 (pt_cmpR op_isN1 (pv 6) pe_non (nomark _))))).pt (pss_one ps_never) pss_nil) (pss_one (ps_expr (pe_bm PySem.F.plainAttrs_list PySem.F.slot_list_append PySem.F.type_list_append mt_append (pv 3) (pa_cons (pv 6) pa_nil))))))) (pss_one (ps_ret (pe_callTy (call_tupK (K := K)) (by rfl) B.n_tuple (by decide +kernel) (pa_cons (pv 3) pa_nil))))))), fun a ha => ?_⟩
  obtain ⟨rows, seats, ns⟩ := a
  obtain ⟨h1, h2, h3, h4, h5⟩ := ha
  have h1 : RowsOk seats ns rows := h1
  have hl : (txD rows).length = rows.length := by unfold txD; rw [strsD_len, List.length_map]
  have n1 := h1.n1
  have n6 := h1.n6
  refine q_no (et_eq (et_or1 (et_not1 (a := true) (et_B1 (eg_isi (d := .tup (txD rows)) (eg_var rfl) rfl (by decide +kernel)))) fun _ => et_not1 (a := true) (et_tru (d := .tup (txD rows)) (eg_var rfl) ?_)) rfl) ?_
  · cases rows with
    | nil => exact absurd n1 (by simp)
    | cons _ _ => rfl
  · refine q_own fun p => ?_
    refine run_seq (N1 := fun G => ∃ s t u, G = [.da (.tup (txD rows)), .da (.tup (strsD seats)), .da (.lst (strsD ns)), .ow p (stD rows), s, t, u] ∧ s.ad = none ∧ t.ad = none ∧ u.ad = none)
      (run_forD (fun i G => ∃ s t u, G = [.da (.tup (txD rows)), .da (.tup (strsD seats)), .da (.lst (strsD ns)), .ow p (stD (rows.take i)), s, t, u] ∧ s.ad = none ∧ t.ad = none ∧ u.ad = none) (wk_enT (ds := txD rows) (ea_1 (eg_var rfl))) ⟨_, _, _, rfl, rfl, rfl, rfl⟩ (fun i d G1 hd hI => ?_) fun G1 hI => ?_) fun G1 hI => ?_
    · obtain ⟨s, t, u, rfl, hs, ht, hu⟩ := hI
      obtain ⟨x, hx, rfl⟩ := enumS_get hd
      rw [List.getElem?_map] at hx
      cases hr' : rows[i]? with
      | none => rw [hr'] at hx; cases hx
      | some r =>
        rw [hr'] at hx
        have ex : r.txt = x := Option.some.inj hx
        subst ex
        have hlt : i < rows.length := (List.getElem?_eq_some_iff.mp hr').1
        refine ⟨[4, 5], _, gg_two rfl hs rfl ht (by decide) (by simp) (by simp), ?_⟩
        refine q_set (s := u) (d := r.dt) (ed_callX (out := fun a : RowIn => a.r.dt) ⟨r, seats, ns⟩ (ea_4 (eg_var rfl) (eg_var rfl) (eg_var rfl) (eg_eq (ed_eqI (eg_var rfl) (ed_sub (ed_cb (ea_1 (eg_var rfl)) (rc_len (n := rows.length) (d := .tup (txD rows)) (by show some _ = some _; rw [hl]) (by omega) rfl)) eg_int)) (by rw [h1.last i r hr']))) ⟨h1.ok r (List.mem_of_getElem? hr'), h2, h3, h4, h5⟩) ?_ rfl hu
        refine q_no (et_eq (et_or1 (a := false) (et_eq (et_tst1 (ed_eqI (eg_var rfl) (eg_int (i := 6)))) (decide_eq_false (by omega))) fun _ => et_tst1 (ed_isN (x := r.dt) (eg_var rfl))) rfl) ?_
        refine run_app (p := p) (ds := stD (rows.take i)) (q := (· = r.dt)) rfl (eg_var rfl) (by unfold stD; rw [List.length_map, List.length_take]; omega) fun d e => ?_
        subst e
        refine ⟨.da (.int (i : Int)), .da (.str r.txt), .da r.dt, ?_, rfl, rfl, rfl⟩
        rw [stD_succ hr']
        rfl
    · rw [enumD_len, hl, List.take_length] at hI
      exact hI
    · obtain ⟨s, t, u, rfl, _⟩ := hI
      exact run_ret (eg_tupO (p := p) rfl)
end
end Sb

set_option Elab.async false
set_option linter.all false
set_option maxRecDepth 100000
set_option autoImplicit false
namespace Sb
open PySem PySem.Spec PyProof.Rows L2 TL
section
variable {P : Program} {w : World} {K : KX} {mg : Str → Option Value} {base : Heap} {aS aO : Addr}
/-! ### text_of -/
def sSeats : Str := "seats "
def sNl : Str := "\n"
def texts (seats : List Str) (rows : List Row) : List Str := (sSeats ++ jn seats) :: rows.map Row.txt
structure TextIn where
  seats : List Str
  rows : List Row
  ns : List Str
def TextIn.ok (a : TextIn) : Prop := SeatsOk a.seats ∧ RowsOk a.seats a.ns a.rows ∧ NamesOk a.ns
theorem sum_le {b : Nat} : ∀ {xs : List Nat}, (∀ x ∈ xs, x ≤ b) → xs.sum ≤ xs.length * b
  | [], _ => by simp
  | x :: xs, h => by
    have h1 := h x (by simp)
    have h2 := sum_le (xs := xs) fun y hy => h y (by simp [hy])
    rw [List.sum_cons, List.length_cons, Nat.succ_mul]
    omega
theorem row_len {seats ns : List Str} (hs : NamesOk seats) (hl : seats.length ≤ 9) (hn : NamesOk ns) {r : Row} (h : r.ok seats ns) : r.txt.length ≤ 200 := by
  obtain ⟨oc, d⟩ := r
  have hd : d.txt.length ≤ 21 * 4 := Nat.le_trans (jn_len (Deed.words hs hl hn h.1)) (by cases d <;> simp [Deed.ws])
  cases oc with
  | none =>
    show d.txt.length ≤ 200
    omega
  | some c =>
    have hc : c.txt.length ≤ 21 * 4 := jn_len (Cond.words hn (h.2 c rfl))
    show (c.txt ++ sColon ++ d.txt).length ≤ 200
    rw [Str.length_append, Str.length_append]
    have : sColon.length = 2 := by decide +kernel
    omega
abbrev sp_text_of (K : KX) : Sp := spX K (fun a : TextIn => [Dt.tup (strsD a.seats), .tup [], .tup (txD a.rows)]) TextIn.ok (fun a e => e = .str (Txt.join sNl (texts a.seats a.rows)))
theorem ok_text_of {f : Addr} {fd : FuncData} (F : Fun K "text_of" "text_of" s_text_of f fd) (B : Bf K mg aS aO) : FnOk P w K mg base CX0 1 f fd A_text_of (sp_text_of K) := by
  refine fn_x F sc_text_of (fun _ => rfl) fun cdv A outer s H E hr => ⟨_, (pss_cons (ps_set (i := 3) sc_text_of.nd rfl (Or.inl rfl) (pe_lst (pa_cons (pe_op (op_addK (K := K)) pe_str (pe_joinK (K := K) pe_str (pv 0))) pa_nil))) (pss_one (ps_ret (pe_joinK (K := K) pe_str (pe_op (op_addK (K := K)) (pe_op (op_addK (K := K)) (pv 3) (pe_lc (own := [("name", 4), ("term", 5)]) (g := gTup K 2 (gCons (gName 4) (gCons (gName 5) gNil))) (by rfl) sc_text_of.nd (pi_anyK (K := K) (pv 1)) (blkOk_by (own := [("name", 4), ("term", 5)]) (N := N_text_of) (sc := defScope s_text_of) (by decide +kernel)) (fun _ _ _ _ _ => (pg_tup rfl (pgs_cons (pg_name (i := 4) sc_text_of.nd rfl (Or.inl rfl)) (pgs_cons (pg_name (i := 5) sc_text_of.nd rfl (Or.inl rfl)) pgs_nil)))) (fun _ _ _ _ _ => pts_nil) (fun _ _ _ _ _ => pe_never))) (pe_callTy (call_lstK (K := K)) (by rfl) B.n_list (by decide +kernel) (pa_cons (pv 2) pa_nil))))))), fun a ha => ?_⟩
  obtain ⟨seats, rows, ns⟩ := a
  obtain ⟨h1, h2, h3⟩ := ha
  have h1 : SeatsOk seats := h1
  have h2 : RowsOk seats ns rows := h2
  have hn4 := h1.n4
  have hn6 := h2.n6
  have hj : (jn seats).length ≤ 21 * seats.length := jn_len fun x hx => word_name (h1.ok x hx)
  have hsl : sSeats.length = 6 := by decide +kernel
  have hws : ∀ x ∈ seats.map (·.length), x ≤ 20 := fun x hx => by
    obtain ⟨y, hy, rfl⟩ := List.mem_map.mp hx
    exact (word_name (h1.ok y hy)).2
  have hsum := sum_le hws
  rw [List.length_map] at hsum
  have htx : ∀ x ∈ (texts seats rows).map (·.length), x ≤ 200 := fun x hx => by
    obtain ⟨y, hy, rfl⟩ := List.mem_map.mp hx
    rcases List.mem_cons.mp hy with z | z
    · rw [z, Str.length_append]
      omega
    · obtain ⟨r, hr, rfl⟩ := List.mem_map.mp z
      exact row_len h1.ok (by omega) h3 (h2.ok r hr)
  have hsum2 := sum_le htx
  have hlen : (texts seats rows).length = rows.length + 1 := by unfold texts; rw [List.length_cons, List.length_map]
  rw [List.length_map, hlen] at hsum2
  have s1l : sp1.length = 1 := by decide +kernel
  have snl : sNl.length = 1 := by decide +kernel
  refine q_set (d := .lst (strsD [sSeats ++ jn seats])) (ed_lst (ea_1 (ed_addS eg_str (eg_m1 (x := sp1) (y := .tup (strsD seats)) eg_str (eg_var rfl) (rm_join true (by rw [s1l]; omega) rfl)) (by show sSeats.length + (jn seats).length ≤ 100000; omega))) (by show 1 ≤ 100000; decide)) ?_
  refine run_ret (eg_m1 (x := sNl) (y := .lst (strsD (texts seats rows))) eg_str (eg_eq (ed_addL (i := strsD [sSeats ++ jn seats]) (j := txD rows) (eg_eq (ed_addL (i := strsD [sSeats ++ jn seats]) (j := []) (eg_var rfl) (ed_lcMap2 (f := fun d => d) rfl rfl (by decide) (wk_any1 (d := .tup []) (eg_var rfl) rfl) (by simp) fun d hd => by cases hd) (by simp [strsD])) (by rw [List.append_nil])) (ed_cb (ea_1 (eg_var rfl)) (rc_lstT rfl)) ?_) rfl) (rm_join false ?_ rfl))
  · unfold txD
    rw [strsD_len, strsD_len, List.length_map]
    simp only [List.length_cons, List.length_nil]
    omega
  · rw [snl, hlen]
    omega
/-! ### check_bids -/
structure BidsIn where
  bids : List Int
  seats : List Str
def intsD (ns : List Int) : List Dt := ns.map Dt.int
structure BidsIn.ok (a : BidsIn) : Prop where
  len : a.bids.length = a.seats.length
  n4 : a.seats.length ≤ 4
  nn : ∀ b ∈ a.bids, 0 ≤ b
abbrev sp_check_bids (K : KX) : Sp := spX K (fun a : BidsIn => [Dt.tup (intsD a.bids), .tup (strsD a.seats)]) BidsIn.ok (fun _ e => e = .non)
theorem intsD_len (xs : List Int) : (intsD xs).length = xs.length := by unfold intsD; rw [List.length_map]
theorem enumI_get {xs : List Int} {i : Nat} {d : Dt} (h : (enumD (intsD xs))[i]? = some d) : ∃ x, xs[i]? = some x ∧ d = .tup [.int (i : Int), .int x] := by
  obtain ⟨e, h1, rfl⟩ := enumD_get h
  unfold intsD at h1
  rw [List.getElem?_map] at h1
  cases q : xs[i]? with
  | none => rw [q] at h1; cases h1
  | some x => rw [q] at h1; exact ⟨x, rfl, by rw [← Option.some.inj h1]⟩
theorem ok_check_bids {f : Addr} {fd : FuncData} (F : Fun K "check_bids" "check_bids" s_check_bids f fd) (B : Bf K mg aS aO) (c_is_integer : Cal P w K mg base 1 "is_integer" (sp_is_integer K)) :
    FnOk P w K mg base CX0 2 f fd A_check_bids (sp_check_bids K) := by
  refine fn_x F sc_check_bids (fun _ => rfl) fun cdv A outer s H E hr => ⟨_, (pss_cons (ps_if ((pw_or (pt_not (pt_val (pe_callB (call_isiQ (K := K)) (by rfl) B.n_isinstance (by decide +kernel) (pa_cons (pv 0) (pa_cons (pe_bltn (v := .ty "tuple") (by rfl) B.n_tuple (by decide +kernel) rfl) pa_nil))))) (pw_or1 (pt_cmpR (op_neK (K := K) hr.units) (pe_callB (call_lenK (K := K)) (by rfl) B.n_len (by decide +kernel) (pa_cons (pv 0) pa_nil)) (pe_callB (call_lenK (K := K)) (by rfl) B.n_len (by decide +kernel) (pa_cons (pv 1) pa_nil)) (nomark _))))).pt (pss_one ps_never) pss_nil) (pss_one (ps_for PassesOwn.never rfl (pi_enT rfl B.n_enumerate (pa_cons (pv 0) pa_nil)) (pg_tup rfl (pgs_cons (pg_name (i := 2) sc_check_bids.nd rfl (Or.inl rfl)) (pgs_cons (pg_name (i := 3) sc_check_bids.nd rfl (Or.inl rfl)) pgs_nil))) (pss_one (ps_if ((pw_or (pt_not (pt_val (pe_c c_is_integer hr (by decide) (by rfl) (pa_cons (pv 3) pa_nil)))) (pw_or1 (pt_cmpR op_lt (pv 3) pe_int (nomark _))))).pt (pss_one ps_never) pss_nil))))), fun a ha => ?_⟩
  obtain ⟨bids, seats⟩ := a
  have hl : bids.length = seats.length := ha.len
  have h4 : seats.length ≤ 4 := ha.n4
  have hb : ∀ b ∈ bids, 0 ≤ b := ha.nn
  refine q_no (et_eq (et_or1 (et_not1 (a := true) (et_B1 (eg_isi (d := .tup (intsD bids)) (eg_var rfl) rfl (by decide +kernel)))) fun _ => et_tst1 (ed_neI (ed_cb (ea_1 (eg_var rfl)) (rc_len (n := bids.length) (d := .tup (intsD bids)) (by show some _ = some _; rw [intsD_len]) (by omega) rfl))
    (ed_cb (ea_1 (eg_var rfl)) (rc_len (n := seats.length) (d := .tup (strsD seats)) (by show some _ = some _; rw [strsD_len]) (by omega) rfl)))) (by rw [hl, decide_eq_true rfl]; rfl)) ?_
  refine run_forD (fun i G => ∃ s t, G = [.da (.tup (intsD bids)), .da (.tup (strsD seats)), s, t] ∧ s.ad = none ∧ t.ad = none) (wk_enT (ds := intsD bids) (ea_1 (eg_var rfl))) ⟨_, _, rfl, rfl, rfl⟩ (fun i d G1 hd hI => ?_) fun G1 _ => rfl
  obtain ⟨s, t, rfl, hs, ht⟩ := hI
  obtain ⟨x, hx, rfl⟩ := enumI_get hd
  refine ⟨[2, 3], _, gg_two rfl hs rfl ht (by decide) (by simp) (by simp), l_no (et_eq (et_or1 (a := false) (et_not1 (a := true) (et_B1 (ed_callX (out := fun d : Dt => Dt.bl (isInt d)) (.int x) (ea_1 (eg_var rfl)) rfl))) fun _ => et_tst1 (ed_lt (j := 0) (eg_var rfl) eg_int)) ?_) ⟨_, _, rfl, rfl, rfl⟩⟩
  rw [decide_eq_false (by have := hb x (List.mem_of_getElem? hx); omega)]
  rfl
/-! ### values of parts -/
def wsD (ws : List (Str × Int)) : List (Str × Dt) := ws.map fun x => (x.1, Dt.int x.2)
def Pt.val (ws : List (Str × Int)) : Pt → Int
  | .nm x => (ws.lookup x).getD 0
  | .nu n => (n : Int)
structure PwIn where
  p : Pt
  ws : List (Str × Int)
def Pt.has (ws : List (Str × Int)) : Pt → Prop
  | .nm x => ∃ v, ws.lookup x = some v
  | .nu _ => True
theorem wsD_get {x : Str} {v : Int} : ∀ {ws : List (Str × Int)}, ws.lookup x = some v → (wsD ws).lookup x = some (.int v)
  | [], h => by cases h
  | (y, u) :: ws, h => by
    show List.lookup x ((y, Dt.int u) :: wsD ws) = _
    rw [List.lookup_cons] at h ⊢
    cases q : x == y with
    | true => rw [q] at h; cases h; rfl
    | false => rw [q] at h; exact wsD_get h
abbrev sp_part_worth (K : KX) : Sp := spX K (fun a : PwIn => [a.p.d, .dic (wsD a.ws)]) (fun a => a.p.has a.ws) (fun a e => e = .int (a.p.val a.ws))
theorem ok_part_worth {f : Addr} {fd : FuncData} (F : Fun K "part_worth" "part_worth" s_part_worth f fd) (B : Bf K mg aS aO) (c_is_integer : Cal P w K mg base 1 "is_integer" (sp_is_integer K)) :
    FnOk P w K mg base CX0 2 f fd A_part_worth (sp_part_worth K) := by
  refine fn_x F sc_part_worth (fun _ => rfl) fun cdv A outer s H E hr => ⟨_, (pss_one (ps_ret (pe_ifExp (pt_val (pe_c c_is_integer hr (by decide) (by rfl) (pa_cons (pv 0) pa_nil))) (pv 0) (pe_dget (hu_of hr) (pv 1) (pv 0) (fun _ _ => rfl))))), fun a ha => ?_⟩
  obtain ⟨p, ws⟩ := a
  cases p with
  | nm x =>
    obtain ⟨v, hv⟩ := (show ∃ v, ws.lookup x = some v from ha)
    refine run_ret (eg_if (p := (· = false)) (et_B1 (ed_callX (out := fun d : Dt => Dt.bl (isInt d)) (.str x) (ea_1 (eg_var rfl)) rfl)) (fun z => (Bool.false_ne_true z.symm).elim) fun _ => eg_eq (eg_dget (ds := wsD ws) (x := x) (eg_var rfl) (eg_var rfl) (wsD_get hv)) ?_)
    show Dt.int v = Dt.int ((ws.lookup x).getD 0)
    rw [hv]
    rfl
  | nu n => exact run_ret (eg_if (p := (· = true)) (et_B1 (ed_callX (out := fun d : Dt => Dt.bl (isInt d)) (.int (n : Int)) (ea_1 (eg_var rfl)) rfl)) (fun _ => eg_var rfl) fun z => (Bool.false_ne_true z).elim)
/-! ### conditions -/
def Cond.ev (ws : List (Str × Int)) (c : Cond) : Bool := if c.st then decide (c.p.val ws < c.q.val ws) else decide (c.p.val ws ≤ c.q.val ws)
structure HoIn where
  c : Option Cond
  ws : List (Str × Int)
def HoIn.ok (a : HoIn) : Prop := ∀ c, a.c = some c → c.p.has a.ws ∧ c.q.has a.ws
def oc (c : Option Cond) : Dt := match c with
  | none => .non
  | some c => c.d
def oev (ws : List (Str × Int)) (c : Option Cond) : Bool := match c with
  | none => true
  | some c => c.ev ws
abbrev sp_holds (K : KX) : Sp := spX K (fun a : HoIn => [oc a.c, .dic (wsD a.ws)]) HoIn.ok (fun a e => e = .bl (oev a.ws a.c))
theorem ok_holds {f : Addr} {fd : FuncData} (F : Fun K "holds" "holds" s_holds f fd) (B : Bf K mg aS aO) (c_part_worth : Cal P w K mg base 2 "part_worth" (sp_part_worth K)) :
    FnOk P w K mg base CX0 3 f fd A_holds (sp_holds K) := by
  refine fn_x F sc_holds (fun _ => rfl) fun cdv A outer s H E hr => ⟨_, (pss_cons (ps_if (pt_cmpR op_isN1 (pv 0) pe_non (nomark _)) (pss_one (ps_ret pe_bl)) pss_nil) (pss_cons (ps_asg (pv 0) (pg_tup rfl (pgs_cons (pg_name (i := 2) sc_holds.nd rfl (Or.inl rfl)) (pgs_cons (pg_name (i := 3) sc_holds.nd rfl (Or.inl rfl)) (pgs_cons (pg_name (i := 4) sc_holds.nd rfl (Or.inl rfl)) pgs_nil))))) (pss_cons (ps_if (pt_cmpR (op_eqK (K := K) hr.units) (pv 3) pe_str (nomark _)) (pss_one (ps_ret (pe_cmpR op_lt (pe_c c_part_worth hr (by decide) (by rfl) (pa_cons (pv 2) (pa_cons (pv 1) pa_nil))) (pe_c c_part_worth hr (by decide) (by rfl) (pa_cons (pv 4) (pa_cons (pv 1) pa_nil))) (nomark _)))) pss_nil) (pss_one (ps_ret (pe_cmpR op_le (pe_c c_part_worth hr (by decide) (by rfl) (pa_cons (pv 2) (pa_cons (pv 1) pa_nil))) (pe_c c_part_worth hr (by decide) (by rfl) (pa_cons (pv 4) (pa_cons (pv 1) pa_nil))) (nomark _))))))), fun a ha => ?_⟩
  obtain ⟨o, ws⟩ := a
  cases o with
  | none => exact q_yes (et_tst1 (ed_isN (x := .non) (eg_var rfl))) (run_ret eg_bl)
  | some c =>
    obtain ⟨h1, h2⟩ := ha c rfl
    refine q_no (et_tst1 (ed_isN (x := c.d) (eg_var rfl))) ?_
    refine run_seq (N1 := (· = (((fr0 [c.d, .dic (wsD ws)] 5).set 2 (.da c.p.d)).set 3 (.da (.str c.sg))).set 4 (.da c.q.d))) (run_asg (p := (· = c.d)) [2, 3, 4] (eg_var rfl) fun d e => ⟨_, by rw [e]; exact gg_three rfl rfl rfl rfl rfl rfl (by decide) (by decide) (by decide) (by simp) (by simp) (by simp), rfl⟩) fun G1 e => ?_
    subst e
    have v1 : ∀ {G : List Sl} {te tw : TE}, Eg K [] G te (· = c.p.d) → Eg K [] G tw (· = .dic (wsD ws)) → Eg K [] G (tCall (sp_part_worth K) [] E0 (tCons te (tCons tw tNil))) (· = .int (c.p.val ws)) := fun a b => ed_callX (out := fun a : PwIn => Dt.int (a.p.val a.ws)) ⟨c.p, ws⟩ (ea_2 a b) h1
    have v2 : ∀ {G : List Sl} {te tw : TE}, Eg K [] G te (· = c.q.d) → Eg K [] G tw (· = .dic (wsD ws)) → Eg K [] G (tCall (sp_part_worth K) [] E0 (tCons te (tCons tw tNil))) (· = .int (c.q.val ws)) := fun a b => ed_callX (out := fun a : PwIn => Dt.int (a.p.val a.ws)) ⟨c.q, ws⟩ (ea_2 a b) h2
    obtain ⟨p, st, q⟩ := c
    cases st with
    | true =>
      refine q_yes (et_eq (et_tst1 (ed_eqS (i := sLt) (j := sLt) (eg_var rfl) eg_str)) (decide_eq_true rfl)) (run_ret (eg_eq (ed_lt (v1 (eg_var rfl) (eg_var rfl)) (v2 (eg_var rfl) (eg_var rfl))) ?_))
      rfl
    | false =>
      refine q_no (et_eq (et_tst1 (ed_eqS (i := sLe) (j := sLt) (eg_var rfl) eg_str)) (by decide +kernel)) (run_ret (eg_eq (ed_le (v1 (eg_var rfl) (eg_var rfl)) (v2 (eg_var rfl) (eg_var rfl))) ?_))
      rfl
/-! ### standing: not called here -/
theorem ok_standing {f : Addr} {fd : FuncData} (F : Fun K "standing" "standing" s_standing f fd) : FnOk P w K mg base CX0 1 f fd A_standing spN :=
  F.ok sc_standing (fun _ _ _ _ h => h.elim) fun _ _ _ _ _ _ _ _ _ h => h.elim
/-! ### sale, the seat being named -/
structure SaIn where
  d : Deed
  seats : List Str
  bids : List Int
  ws : List (Str × Int)
def SaIn.ok (a : SaIn) : Prop := ∀ w p, a.d = .sell w p → (∃ x, w = .seat x) ∧ p.has a.ws
def Deed.res (ws : List (Str × Int)) : Deed → Dt
  | .sell (.seat x) p => .tup [.str x, .int (p.val ws)]
  | _ => .non
abbrev sp_sale (K : KX) : Sp := spX K (fun a : SaIn => [a.d.d, .tup (strsD a.seats), .tup (intsD a.bids), .dic (wsD a.ws)]) SaIn.ok (fun a e => e = a.d.res a.ws)
theorem ok_sale {f : Addr} {fd : FuncData} (F : Fun K "sale" "sale" s_sale f fd) (B : Bf K mg aS aO) (c_is_integer : Cal P w K mg base 1 "is_integer" (sp_is_integer K)) (c_part_worth : Cal P w K mg base 2 "part_worth" (sp_part_worth K)) (c_standing : Cal P w K mg base 1 "standing" spN) :
    FnOk P w K mg base CX0 3 f fd A_sale (sp_sale K) := by
  refine fn_x F sc_sale (fun _ => rfl) fun cdv A outer s H E hr => ⟨_, (pss_cons (ps_if (pt_cmpR (op_eqK (K := K) hr.units) (pe_ix (ix_anyK (K := K)) (pv 0) pe_int (fun _ _ => rfl)) pe_str (nomark _)) (pss_one (ps_ret pe_non)) pss_nil) (pss_cons (ps_set (i := 4) sc_sale.nd rfl (Or.inl rfl) (pe_ifExp (pt_val (pe_c c_is_integer hr (by decide) (by rfl) (pa_cons (pe_ix (ix_anyK (K := K)) (pv 0) pe_int (fun _ _ => rfl)) pa_nil))) (pe_ix (ix_anyK (K := K)) (pe_c c_standing hr (by decide) (by rfl) (pa_cons (pv 1) (pa_cons (pv 2) pa_nil))) (pe_op op_sub (pe_ix (ix_anyK (K := K)) (pv 0) pe_int (fun _ _ => rfl)) pe_int) (fun _ _ => rfl)) (pe_ix (ix_anyK (K := K)) (pv 0) pe_int (fun _ _ => rfl)))) (pss_one (ps_ret (pe_tup (pa_cons (pv 4) (pa_cons (pe_c c_part_worth hr (by decide) (by rfl) (pa_cons (pe_ix (ix_anyK (K := K)) (pv 0) pe_int (fun _ _ => rfl)) (pa_cons (pv 3) pa_nil))) pa_nil))))))), fun a ha => ?_⟩
  obtain ⟨dd, seats, bids, ws⟩ := a
  cases dd with
  | keep => exact q_yes (et_eq (et_tst1 (ed_eqS (i := sKeep) (j := sKeep) (ed_ixT (ds := [.str sKeep]) (eg_var rfl) eg_int at0) eg_str)) (decide_eq_true rfl)) (run_ret eg_non)
  | sell ww p =>
    obtain ⟨⟨x, rfl⟩, hp⟩ := ha ww p rfl
    refine q_no (et_eq (et_tst1 (ed_eqS (i := sSell) (j := sKeep) (ed_ixT (ds := [.str sSell, .str x, p.d]) (eg_var rfl) eg_int at0) eg_str)) (by decide +kernel)) ?_
    refine q_set (d := .str x) (eg_if (p := (· = false)) (et_B1 (ed_callX (out := fun d : Dt => Dt.bl (isInt d)) (.str x) (ea_1 (ed_ixT (ds := [.str sSell, .str x, p.d]) (eg_var rfl) eg_int at1)) rfl)) (fun z => (Bool.false_ne_true z.symm).elim) fun _ => ed_ixT (ds := [.str sSell, .str x, p.d]) (eg_var rfl) eg_int at1) ?_
    exact run_ret (ed_tup (ea_2 (eg_var rfl) (ed_callX (out := fun a : PwIn => Dt.int (a.p.val a.ws)) ⟨p, ws⟩ (ea_2 (ed_ixT (ds := [.str sSell, .str x, p.d]) (eg_var rfl) eg_int at2) (eg_var rfl)) hp)))
end
end Sb

set_option Elab.async false
set_option linter.all false
set_option maxRecDepth 100000
set_option autoImplicit false
namespace Sb
open PySem PySem.Spec PyProof.Rows L2 TL
variable {K : KX} {S : List Addr} {G : List Sl}
/-! ### an object is made -/
theorem hold_seq {B : Hp} {O : Ow} {H : Hp} {σ : L2.St} {D : Ends} {t1 t2 : TS} {N1 : List Sl → Prop} (h1 : Run K S t1 G N1 (fun _ => False) (fun _ => False)) (hh : Hold K B S O G H σ)
    (k : ∀ G' σ' H', N1 G' → Hold K B S O G' H' σ' → t2 D σ' H') : tSeq t1 t2 D σ H := h1 B O { D with nx := t2 D } σ H hh k (fun _ _ _ r => r.elim) (fun _ _ _ r => r.elim)
theorem putF_new {f : Str} {y : V} : ∀ {fs : List (Str × V)}, fs.lookup f = none → putF f y fs = fs ++ [(f, y)]
  | [], _ => rfl
  | (g, u) :: r, h => by
    rw [List.lookup_cons] at h
    cases q : f == g with
    | true => rw [q] at h; cases h
    | false =>
      rw [q] at h
      have ne : ¬ g = f := fun z => by rw [z] at q; simp at q
      show (if g = f then _ else (g, u) :: putF f y r) = _
      rw [if_neg ne, putF_new h]
      rfl
theorem dnF_app {H : Hp} {f : Str} {d : Dt} {y : V} : ∀ {ds : List (Str × Dt)} {fs : List (Str × V)}, DnF K H ds fs → Dn K H d y → DnF K H (ds ++ [(f, d)]) (fs ++ [(f, y)])
  | [], _, h, g => by cases (show _ = [] from h); exact ⟨y, [], rfl, g, rfl⟩
  | (x, d0) :: ds, _, h, g => by
    obtain ⟨v, r, rfl, h1, h2⟩ := h
    exact ⟨v, _, rfl, h1, dnF_app h2 g⟩
theorem dnF_len {H : Hp} : ∀ {ds : List (Str × Dt)} {fs : List (Str × V)}, DnF K H ds fs → fs.length = ds.length
  | [], _, h => by cases (show _ = [] from h); rfl
  | (x, d0) :: ds, _, h => by
    obtain ⟨v, r, rfl, h1, h2⟩ := h
    rw [List.length_cons, List.length_cons, dnF_len h2]
theorem fld_step {B : Hp} {O : Ow} {H : Hp} {σ : L2.St} {D : Ends} {x C dx : Addr} {fs : List (Str × V)} {ds : List (Str × Dt)} {i : Nat} {te : TE} {f : Str} {d : Dt} (hh : Hold K B S ((x, .ins C dx fs) :: O) G H σ) (hi : G[i]? = some (.rf x)) (c : Cls K C) (n : NoAttr K C f)
    (he : Eg K S G te (· = d)) (hf : DnF K (hid H (x :: pof O G)) ds fs) (hl : ds.length < 100) (hn : ds.lookup f = none)
    (k : ∀ H' fs', Hold K B S ((x, .ins C dx fs') :: O) G H' σ → DnF K (hid H' (x :: pof O G)) (ds ++ [(f, d)]) fs' → D.nx σ H') : sFld K (tVar i) te f D σ H := by
  refine he B _ σ H hh _ fun y H1 d1 hd hh1 g1 dn => ?_
  subst hd
  obtain ⟨o, e1, e2⟩ := hh1.sl i _ hi
  have e2 : o = some (.ref x) := e2
  subst e2
  have hx : H1 x = some (.ins C dx fs) := hh1.oo (x, .ins C dx fs) List.mem_cons_self
  have hf1 : DnF K (hid H1 (x :: pof O G)) ds fs := DnF.mono g1 ds hf
  have hln : fs.lookup f = none := dnF_none hf1 hn
  refine ⟨.ref x, e1, x, C, dx, fs, rfl, hx, c, n, by rw [dnF_len hf1]; omega, ?_⟩
  rw [putF_new hln]
  have up : ExN (hid H1 (x :: pof O G)) (hid (upd H1 x (.ins C dx (fs ++ [(f, y)]))) (x :: pof O G)) := hid_up List.mem_cons_self
  exact k _ _ hh1.apart_up (dnF_app (DnF.mono up ds hf1) (Dn.mono up d1 dn))
theorem entryI {P : List Addr} {x C dx : Addr} {H : Hp} {ds : List Dt} {ws : List V} {y : Str} {N : List Str} (hx : H x = some (.ins C dx [])) (hp : x ∉ P) (t : Trk P H) (nd : P.Nodup) (tb : Tb K H) (d : DnA K (hid H (x :: P)) ds ws) :
    Hold K (hid H (x :: P)) [] ((x, .ins C dx []) :: P.map fun a => (a, obj H a)) (.rf x :: fr0 ds N.length) H (L2.start (y :: N) (.ref x :: ws)) := by
  have hl := DnA.len d
  have ea : ads (.rf x :: fr0 ds N.length) = [] := by
    have : ads (.rf x :: fr0 ds N.length) = ads (fr0 ds N.length) := rfl
    rw [this, ads_fr0]
  have ep : pof ((x, .ins C dx []) :: P.map fun a => (a, obj H a)) (.rf x :: fr0 ds N.length) = x :: P := by
    unfold pof
    rw [ea, List.append_nil, List.map_cons, List.map_map]
    congr 1
    exact List.map_id P
  refine ⟨?_, fun i s e => ?_, by rw [ep]; exact List.nodup_cons.mpr ⟨hp, nd⟩, ?_, by rw [ep]; exact fun a o e _ _ => e, fun q hq => ?_, fun q hq => ?_, tb⟩
  · unfold L2.start fr0
    simp only [List.length_append, List.length_map, List.length_replicate, List.length_cons, hl]
    omega
  · rw [ep]
    cases i with
    | zero =>
      cases e
      exact ⟨some (.ref x), rfl, rfl⟩
    | succ i =>
      have e' : (fr0 ds N.length)[i]? = some s := e
      obtain ⟨o, h1, h2⟩ := sl_fr0 (K := K) (H := H) (P := x :: P) d i s e'
      refine ⟨o, ?_, h2⟩
      show ((some (V.ref x) :: ws.map some) ++ List.replicate ((y :: N).length - (V.ref x :: ws).length) none)[i + 1]? = some o
      have en : (y :: N).length - (V.ref x :: ws).length = N.length - ws.length := by simp only [List.length_cons]; omega
      rw [en]
      exact h1
  · have : srs (.rf x :: fr0 ds N.length) = srs (fr0 ds N.length) := rfl
    rw [this, srs_fr0]
  · rcases List.mem_cons.mp hq with z | z
    · subst z; exact hx
    · obtain ⟨a, ha, rfl⟩ := List.mem_map.mp z
      exact (t.obj ha).1
  · rcases List.mem_cons.mp hq with z | z
    · subst z; exact nt_ins
    · obtain ⟨a, ha, rfl⟩ := List.mem_map.mp z
      exact (t.obj ha).2
section
variable {al : Type}
def spI (K : KX) (C : Addr) (rep : al → List Dt) (ok : al → Prop) (out : al → List (Str × Dt)) : Sp := fun vs H Q _ => ∃ a, ok a ∧ ∃ P x dx ws, vs = .ref x :: ws ∧ H x = some (.ins C dx []) ∧ x ∉ P ∧ Trk P H ∧ P.Nodup ∧ Tb K H ∧ DnA K (hid H (x :: P)) (rep a) ws ∧
  ∀ H', (∀ b o, b ≠ x → H b = some o → NT o → H' b = some o) → Tb K H' → Dn K (hid H' P) (.obj C (out a)) (.ref x) → Q .non H'
variable {rep : al → List Dt} {ok : al → Prop} {out : al → List (Str × Dt)} {C : Addr}
theorem eg_make {E : XK} {tA : TA} {px : List Dt → Prop} {pz : Dt → Prop} (h : Ea K S G tA px) (ha : ∀ ds, px ds → ∃ a, ds = rep a ∧ ok a ∧ pz (.obj C (out a))) : Eg K S G (tMake C (spI K C rep ok out) [] E tA) pz := fun B O σ H hh Q k =>
  h B O σ H hh _ fun vs H1 ds hx h1 g1 d1 => by
    obtain ⟨a, rfl, oka, hz⟩ := ha ds hx
    intro x dx nx ndx ne
    have fx : x ∉ pof O G := h1.fresh nx
    have fdx : dx ∉ pof O G := h1.fresh ndx
    have e1 : Ex H1 (upd (upd H1 dx (.own x)) x (.ins C dx [])) := fun b o e => by
      rw [upd_ne (ne_of_none e nx), upd_ne (ne_of_none e ndx)]
      exact e
    rw [List.append_nil]
    refine ⟨a, oka, pof O G, x, dx, vs, rfl, upd_same, fx, h1.trk.ex e1, h1.nd, h1.tb.ext e1, DnA.mono (fun b o e nt => ?_) _ d1, fun H' kp tb dn => ⟨rfl, ?_⟩⟩
    · obtain ⟨n, e⟩ := hid_some e
      have nb : b ≠ x := ne_of_none e nx
      rw [hid_out (fun z => (List.mem_cons.mp z).elim nb n)]
      exact e1 b o e
    · have e2 : ExN H1 H' := fun b o e nt => kp b o (ne_of_none e nx) (e1 b o e) nt
      exact k _ _ _ hz (h1.moreN e2 tb) (g1.trans (hid_monoN fun b o _ e nt => e2 b o e nt)) dn
variable {P : Program} {w : World} {mg : Str → Option Value} {base : Heap}
theorem fn_init {qual : Str} {st : Stmt} {f : Addr} {fd : FuncData} {y : Str} {N ps : List Str} {k : Nat} (F : Fun K "__init__" qual st f fd) (Sc : FnScope (y :: N) (y :: ps) (defScope st)) (hl : ∀ a, (rep a).length = ps.length)
    (hb : ∀ (cdv : Value) (A : Around) (outer : List Env) (s : Shared) (H : Hp) (E : XK), Room k (A.deeper (envOfC qual (defScope st) s.heap.objs.size f cdv)) →
      ∃ t, PSs (cxOf CX0 P w K mg base (y :: N) qual (defScope st) f cdv A outer s H E).nox (defBody st) t ∧ ∀ a, ok a → ∀ B O x dx σ H (D : Ends), Hold K B [] ((x, .ins C dx []) :: O) (.rf x :: fr0 (rep a) N.length) H σ →
        (∀ G' σ' H' fs, Hold K B [] ((x, .ins C dx fs) :: O) G' H' σ' → ads G' = [] → DnF K (hid H' (x :: op O)) (out a) fs → D.nx σ' H') → t D σ H) :
    FnOk P w K mg base CX0 (k + 1) f fd (y :: ps) (spI K C rep ok out) := by
  refine F.ok Sc (fun vs H Q E h => ?_) fun cdv A outer s H vs Q E hr h => ?_
  · obtain ⟨a, _, _, x, dx, ws, rfl, _, _, _, _, _, d, _⟩ := h
    rw [List.length_cons, DnA.len d, hl a]
    rfl
  · obtain ⟨t, h1, h2⟩ := hb cdv A outer s H E hr
    obtain ⟨a, oka, Pp, x, dx, ws, rfl, hx, hp, tr, nd, tb, d, kk⟩ := h
    refine ⟨t, h1, h2 a oka _ _ x dx _ H _ (entryI hx hp tr nd tb d) fun G' σ' H' fs hh ea dn => ?_⟩
    have Ho : op (Pp.map fun a => (a, obj H a)) = Pp := by unfold op; rw [List.map_map]; exact List.map_id Pp
    have ep : pof ((x, .ins C dx fs) :: Pp.map fun a => (a, obj H a)) G' = x :: Pp := by
      show x :: (op (Pp.map fun a => (a, obj H a)) ++ ads G') = x :: Pp
      rw [Ho, ea, List.append_nil]
    rw [Ho] at dn
    refine kk H' (fun b o n e nt => ?_) hh.tb ⟨x, dx, fs, rfl, ?_, DnF.mono (hid_sub fun b hb => List.mem_cons_of_mem _ hb) _ dn⟩
    · by_cases hm : b ∈ Pp
      · have q1 := hh.oo (b, obj H b) (List.mem_cons_of_mem _ (List.mem_map_of_mem hm))
        have q2 := (tr.obj hm).1
        rw [e] at q2
        rw [Option.some.inj q2]
        exact q1
      · have q1 := hh.ex b o (by rw [hid_out fun z => (List.mem_cons.mp z).elim n hm]; exact e) nt (by simp)
        exact (hid_some q1).2
    · rw [hid_out hp]
      exact hh.oo (x, .ins C dx fs) List.mem_cons_self
end
end Sb

set_option Elab.async false
set_option linter.all false
set_option maxRecDepth 100000
set_option autoImplicit false
namespace Sb
open PySem PySem.Spec PyProof.Rows L2 TL
/-! ### dict(zip(s, t)) of two tuples: the pair that zip gave out before is still there -/
section
variable {prog : Program} {w : World} {A : Around} {E : Value → Shared → Prop} {s : Shared} {z TI TO T i1 i2 : Addr} {fp1 fp2 : List Addr} {n1 n2 i : Nat} {P1 P2 : Nat → Value → Prop} {St1 St2 : Nat → Heap → Prop} {f : Bool} {oT : Obj}
set_option maxHeartbeats 1000000 in
theorem zipH_item {Q : Option Value → Shared → Prop} (S : ZipSep2 z TI TO i1 i2 fp1 fp2) (D1 : Draws prog w A.in1 i1 fp1 n1 P1 St1) (D2 : Draws prog w A.in1 i2 fp2 n2 P2 St2)
    (hz : IsZipHeld s.heap z TI TO T f) (hT : s.heap.get? T = some oT) (hTI : IsTupOf2 s.heap TI (.ref i1) (.ref i2)) (st1 : St1 i s.heap) (st2 : St2 i s.heap) (l1 : i < n1) (l2 : i < n2)
    (hQ : ∀ x y h' tk, P1 i x → P2 i y → IsZipHeld h' z TI TO T true → St1 (i + 1) h' → St2 (i + 1) h' → IsTupOf2 h' s.heap.objs.size x y →
      (∀ c o, c ≠ z → c ≠ i1 → c ≠ i2 → s.heap.get? c = some o → h'.get? c = some o) → Q (some (.ref s.heap.objs.size)) { s with heap := h', toks := tk }) :
    wpAny (model prog w) A (pyNext (.ref z)) Q E s := by
  have hTy : s.TypeIs (.ref z) "zip" := ⟨_, hz, rfl⟩
  unfold pyNext
  refine wpAny_bind (wpAny_attempt (wpAny_callSpecial?_slot (name := Str.ofString "__next__") hTy F.slot_zip_next
    (wpAny_call_entry F.slot_zip_next hTy F.entry_zip_next ?_ (F.args_zip_next_1 _))))
  obtain ⟨hp, g, d, tk0, os⟩ := s
  show wpAny _ _ (field (.ref z) 2 >>= _) _ _ _
  refine wpAny_bind (wpAny_field hz rfl (x := .bool false) rfl ?_)
  show wpAny _ _ (field (.ref z) 3 >>= _) _ _ _
  refine wpAny_bind (wpAny_field hz rfl (x := .ref TI) rfl ?_)
  refine wpAny_bind (wpAny_seqItems hTI rfl ?_)
  show wpAny _ _ (Builtin.SmallTypes.ownedTupleIsFree (.ref z) >>= _) _ _ _
  refine wpAny_bind (wpAny_tupleHeld_zip hz hT fun g0 hz0 hs0 => ?_)
  replace hs0 : Heap.SameBut z hp g0 := hs0
  simp only [Bool.false_eq_true, if_false]
  refine wpAny_bind ?_
  rw [← Array.forIn_toList]
  simp only [List.forIn_cons, List.forIn_nil]
  refine wpAny_bind (wpAny_bind (wpAny_holding ?_))
  show wpAny _ _ (Builtin.SmallTypes.nextOf (.ref i1) >>= _) _ _ ⟨g0, g, d, tk0, os⟩
  refine wpAny_bind (D1.item i _ _ _ l1 (D1.over st1 hs0 S.zf1) fun x g1 tk1 hx sn1 hp1 => wpAny_pure (wpAny_pure ?_))
  replace hp1 : Heap.SameBut i1 g0 g1 := hp1
  refine wpAny_bind (wpAny_bind (wpAny_holding ?_))
  show wpAny _ _ (Builtin.SmallTypes.nextOf (.ref i2) >>= _) _ _ ⟨g1, g, d, tk1, os⟩
  refine wpAny_bind (D2.item i _ _ _ l2 (D2.over (D2.over st2 hs0 S.zf2) hp1 S.sep1_2) fun y g2 tk2 hy sn2 hp2 => wpAny_pure (wpAny_pure (wpAny_pure ?_)))
  replace hp2 : Heap.SameBut i2 g1 g2 := hp2
  show wpAny _ _ (newTuple [x, y] >>= _) _ _ ⟨g2, g, d, tk2, os⟩
  refine wpAny_bind (wpAny_newTuple ?_)
  have hsz : g2.objs.size = hp.objs.size := by rw [hp2.1, hp1.1, hs0.1]
  have hzz : IsZipHeld g2 z TI TO T true := hp2.extBut _ _ S.zi2 (hp1.extBut _ _ S.zi1 hz0)
  have hj1 : St1 (i + 1) g2 := D1.over sn1 hp2 S.sep2_1
  have hp : IsTupOf2 (g2.push { cls := .type "tuple", data := .seq #[x, y] }) g2.objs.size x y := Heap.get?_push_size _ rfl
  refine wpAny_pure ⟨_, rfl, wpAny_pure ?_⟩
  show Q (some (.ref g2.objs.size)) _
  rw [hsz] at hp ⊢
  exact hQ x y _ tk2 hx hy (Heap.get?_push_of_some _ hzz) (D1.frame _ _ _ hj1 fun b _ o e => Heap.get?_push_of_some _ e) (D2.frame _ _ _ sn2 fun b _ o e => Heap.get?_push_of_some _ e) hp
    fun c o c1 c2 c3 e => Heap.get?_push_of_some _ (hp2.extBut _ _ c3 (hp1.extBut _ _ c2 (hs0.extBut _ _ c1 e)))
set_option maxHeartbeats 1000000 in
theorem zipH_end0 {Q : PySem.Fin → Shared → Prop} (S : ZipSep2 z TI TO i1 i2 fp1 fp2) (D1 : Draws prog w A i1 fp1 n1 P1 St1) (D2 : Draws prog w A i2 fp2 n2 P2 St2)
    (hz : IsZipHeld s.heap z TI TO T f) (hT : s.heap.get? T = some oT) (hTI : IsTupOf2 s.heap TI (.ref i1) (.ref i2)) (st1 : St1 i s.heap) (st2 : St2 i s.heap) (l1 : i ≤ n1) (l2 : i ≤ n2) (hend : i = n1 ∨ i = n2)
    (hE : ∀ h' tk e, (∀ c o, c ≠ z → c ≠ i1 → c ≠ i2 → s.heap.get? c = some o → h'.get? c = some o) → (∃ o, h'.get? e = some o ∧ o.cls = .type "StopIteration") → E (.ref e) { s with heap := h', toks := tk }) :
    wpAny (model prog w) A (Builtin.«zip.__next__» ⟨[.ref z], []⟩) Q E s := by
  obtain ⟨hp, g, d, tk0, os⟩ := s
  show wpAny _ _ (field (.ref z) 2 >>= _) _ _ _
  refine wpAny_bind (wpAny_field hz rfl (x := .bool false) rfl ?_)
  show wpAny _ _ (field (.ref z) 3 >>= _) _ _ _
  refine wpAny_bind (wpAny_field hz rfl (x := .ref TI) rfl ?_)
  refine wpAny_bind (wpAny_seqItems hTI rfl ?_)
  show wpAny _ _ (Builtin.SmallTypes.ownedTupleIsFree (.ref z) >>= _) _ _ _
  refine wpAny_bind (wpAny_tupleHeld_zip hz hT fun g0 hz0 hs0 => ?_)
  replace hs0 : Heap.SameBut z hp g0 := hs0
  simp only [Bool.false_eq_true, if_false]
  refine wpAny_bind ?_
  rw [← Array.forIn_toList]
  simp only [List.forIn_cons, List.forIn_nil]
  refine wpAny_bind (wpAny_bind (wpAny_holding ?_))
  show wpAny _ _ (Builtin.SmallTypes.nextOf (.ref i1) >>= _) _ _ ⟨g0, g, d, tk0, os⟩
  by_cases lt : i < n1
  · refine wpAny_bind (D1.item i _ _ _ lt (D1.over st1 hs0 S.zf1) fun x g1 tk1 hx sn1 hp1 => wpAny_pure (wpAny_pure ?_))
    replace hp1 : Heap.SameBut i1 g0 g1 := hp1
    have e2 : i = n2 := by omega
    refine wpAny_bind (wpAny_bind (wpAny_holding ?_))
    show wpAny _ _ (Builtin.SmallTypes.nextOf (.ref i2) >>= _) _ _ ⟨g1, g, d, tk1, os⟩
    refine wpAny_bind (D2.done ⟨g1, g, d, tk1, os⟩ _ _ (by rw [← e2]; exact D2.over (D2.over st2 hs0 S.zf2) hp1 S.sep1_2) fun q e hq he => ?_)
    exact hE q tk1 e (fun c o cz c1 c2 x => hq _ _ c2 (hp1.extBut _ _ c1 (hs0.extBut _ _ cz x))) he
  · have e1 : i = n1 := by omega
    refine wpAny_bind (D1.done ⟨g0, g, d, tk0, os⟩ _ _ (by rw [← e1]; exact D1.over st1 hs0 S.zf1) fun q e hq he => ?_)
    exact hE q tk0 e (fun c o cz c1 c2 x => hq _ _ c1 (hs0.extBut _ _ cz x)) he
theorem zipH_end {Q : Option Value → Shared → Prop} (S : ZipSep2 z TI TO i1 i2 fp1 fp2) (D1 : Draws prog w A.in1 i1 fp1 n1 P1 St1) (D2 : Draws prog w A.in1 i2 fp2 n2 P2 St2)
    (hz : IsZipHeld s.heap z TI TO T f) (hT : s.heap.get? T = some oT) (hTI : IsTupOf2 s.heap TI (.ref i1) (.ref i2)) (st1 : St1 i s.heap) (st2 : St2 i s.heap) (l1 : i ≤ n1) (l2 : i ≤ n2) (hend : i = n1 ∨ i = n2)
    (hQ : ∀ h' tk, (∀ c o, c ≠ z → c ≠ i1 → c ≠ i2 → s.heap.get? c = some o → h'.get? c = some o) → Q none { s with heap := h', toks := tk }) :
    wpAny (model prog w) A (pyNext (.ref z)) Q E s := by
  have hTy : s.TypeIs (.ref z) "zip" := ⟨_, hz, rfl⟩
  unfold pyNext
  refine wpAny_bind (wpAny_attempt (wpAny_callSpecial?_slot (name := Str.ofString "__next__") hTy F.slot_zip_next
    (wpAny_call_entry F.slot_zip_next hTy F.entry_zip_next (zipH_end0 S D1 D2 hz hT hTI st1 st2 l1 l2 hend fun h' tk e hk he => ?_) (F.args_zip_next_1 _))))
  obtain ⟨o, ho, hc⟩ := he
  refine wpAny_bind (wpAny_isInstance (T := "StopIteration") (b := true) ⟨o, ho, hc⟩ isSubtype_stop ?_)
  exact wpAny_pure (hQ _ _ hk)
end
/-- zip over two iterators, as what dict() is given -/
theorem pairs_zip {prog : Program} {w : World} {z TI TO i1 i2 : Addr} {fp1 fp2 : List Addr} {n1 n2 : Nat} {P1 P2 : Nat → Value → Prop} {St1 St2 : Nat → Heap → Prop} (S : ZipSep2 z TI TO i1 i2 fp1 fp2)
    (D1 : ∀ A : Around, A.handled = none → Draws prog w A i1 fp1 n1 P1 St1) (D2 : ∀ A : Around, A.handled = none → Draws prog w A i2 fp2 n2 P2 St2)
    (t1 : ∀ h i, St1 i h → ∀ b ∈ fp1, ∃ o, h.get? b = some o) (t2 : ∀ h i, St2 i h → ∀ b ∈ fp2, ∃ o, h.get? b = some o) (A0 : Around) (h0 : A0.handled = none) :
    PairArg prog w "zip" z (z :: TI :: TO :: (fp1 ++ fp2)) [z, TO, i1, i2] (min n1 n2) (fun i k v => P1 i k ∧ P2 i v)
      (fun h => IsZip h z TI TO .none ∧ IsTupOf2 h TI (.ref i1) (.ref i2) ∧ (∃ a b, IsTupOf2 h TO a b) ∧ St1 0 h ∧ St2 0 h) where
  type := fun s ok => ⟨_, ok.1, rfl⟩
  notDict := by decide
  keep := fun h h' ok hk => by
    obtain ⟨hz, hTI, ⟨a, b, hTO⟩, h1, h2⟩ := ok
    exact ⟨hk _ _ hz, hk _ _ hTI, ⟨a, b, hk _ _ hTO⟩, (D1 A0 h0).frame _ _ _ h1 fun b _ o e => hk _ o e, (D2 A0 h0).frame _ _ _ h2 fun b _ o e => hk _ o e⟩
  there := fun h ok b hb => by
    obtain ⟨hz, hTI, ⟨a, c, hTO⟩, h1, h2⟩ := ok
    simp only [List.mem_cons, List.mem_append] at hb
    rcases hb with rfl | rfl | rfl | hb | hb
    · exact ⟨_, hz⟩
    · exact ⟨_, hTI⟩
    · exact ⟨_, hTO⟩
    · exact t1 h 0 h1 b hb
    · exact t2 h 0 h2 b hb
  sub := fun b hb => by
    simp only [List.mem_cons, List.not_mem_nil, or_false, List.mem_append] at hb ⊢
    rcases hb with rfl | rfl | rfl | rfl
    · simp
    · simp
    · simp [S.mem1]
    · simp [S.mem2]
  noKeys := fun A s Q E hA ok h => getAttrOr_miss_zip ok.1 rfl rfl rfl zip_no_keys (by decide +kernel) hA h
  iter := fun A s d Q E hA ok hd hdf h => by
    obtain ⟨hz, hTI, ⟨a, b, hTO⟩, h1, h2⟩ := ok
    simp only [List.mem_cons, List.mem_append, not_or] at hdf
    obtain ⟨dz, dTI, dTO, df1, df2⟩ := hdf
    have di1 : d ≠ i1 := fun e => df1 (by rw [e]; exact S.mem1)
    have di2 : d ≠ i2 := fun e => df2 (by rw [e]; exact S.mem2)
    have E1 := D1 A.in1 hA
    have E2 := D2 A.in1 hA
    refine wpAny_pyIter_zip hz (h z [z, TO, i1, i2] (fun i h => IsTupOf2 h TI (.ref i1) (.ref i2) ∧ St1 i h ∧ St2 i h ∧
      ((IsZip h z TI TO .none ∧ ∃ a b, IsTupOf2 h TO a b) ∨ ∃ T f oT, IsZipHeld h z TI TO T f ∧ h.get? T = some oT ∧ T ≠ z ∧ T ≠ i1 ∧ T ≠ i2 ∧ T ≠ d)) s.heap s.toks ?_
      ⟨hTI, h1, h2, .inl ⟨hz, a, b, hTO⟩⟩ (fun _ _ e => e) fun b hb => .inl hb)
    exact {
      off := fun hm => by
        simp only [List.mem_cons, List.not_mem_nil, or_false] at hm
        rcases hm with e | e | e | e
        · exact dz e
        · exact dTO e
        · exact di1 e
        · exact di2 e
      frame := fun i g1 g2 st hk => by
        obtain ⟨hTI, h1, h2, hz⟩ := st
        refine ⟨hk _ _ (Ne.symm dTI) hTI, E1.frame _ _ _ h1 fun b hb o e => hk b o (fun q => df1 (q ▸ hb)) e, E2.frame _ _ _ h2 fun b hb o e => hk b o (fun q => df2 (q ▸ hb)) e, ?_⟩
        rcases hz with ⟨hz, a, b, hTO⟩ | ⟨T, f, oT, hz, hT, r1, r2, r3, r4⟩
        · exact .inl ⟨hk _ _ (Ne.symm dz) hz, a, b, hk _ _ (Ne.symm dTO) hTO⟩
        · exact .inr ⟨T, f, oT, hk _ _ (Ne.symm dz) hz, hk _ _ r4 hT, r1, r2, r3, r4⟩
      item := fun i s1 Q1 X1 hi st hds hQ => by
        obtain ⟨hTI, h1, h2, hz⟩ := st
        have l1 : i < n1 := Nat.lt_of_lt_of_le hi (Nat.min_le_left ..)
        have l2 : i < n2 := Nat.lt_of_lt_of_le hi (Nat.min_le_right ..)
        have lt : ∀ {c o}, s1.heap.get? c = some o → s1.heap.objs.size ≠ c := fun e => Nat.ne_of_gt (Heap.lt_size e)
        have m1 : s1.heap.objs.size ≠ i1 := let ⟨_, e⟩ := E1.live _ _ h1; lt e
        have m2 : s1.heap.objs.size ≠ i2 := let ⟨_, e⟩ := E2.live _ _ h2; lt e
        rcases hz with ⟨hz, a, b, hTO⟩ | ⟨T, f, oT, hz, hT, r1, r2, r3, r4⟩
        · refine wpAny_pyNext_zipD2_item S E1 E2 hz hTI hTO h1 h2 l1 l2 fun x y h' tk y1 y2 b1 b2 d1 d2 b5 b6 hk => ?_
          exact hQ s1.heap.objs.size _ _ h' tk ⟨y1, y2⟩ (.inl ⟨_, b5, rfl, _, rfl⟩) ⟨hk _ _ S.TIz S.TITO S.TIi1 S.TIi2 hTI, d1, d2, .inr ⟨s1.heap.objs.size, false, _, b1, b5, lt hz, m1, m2, Nat.ne_of_gt hds⟩⟩
            fun c o hc e => hk c o (fun x => hc (by simp [x])) (fun x => hc (by simp [x])) (fun x => hc (by simp [x])) (fun x => hc (by simp [x])) e
        · refine zipH_item S E1 E2 hz hT hTI h1 h2 l1 l2 fun x y h' tk y1 y2 b1 d1 d2 b5 hk => ?_
          exact hQ s1.heap.objs.size _ _ h' tk ⟨y1, y2⟩ (.inl ⟨_, b5, rfl, _, rfl⟩) ⟨hk _ _ S.TIz S.TIi1 S.TIi2 hTI, d1, d2, .inr ⟨T, true, oT, b1, hk _ _ r1 r2 r3 hT, r1, r2, r3, r4⟩⟩
            fun c o hc e => hk c o (fun x => hc (by simp [x])) (fun x => hc (by simp [x])) (fun x => hc (by simp [x])) e
      done := fun s1 Q1 X1 st hQ => by
        obtain ⟨hTI, h1, h2, hz⟩ := st
        have hend : min n1 n2 = n1 ∨ min n1 n2 = n2 := by omega
        rcases hz with ⟨hz, a, b, hTO⟩ | ⟨T, f, oT, hz, hT, r1, r2, r3, r4⟩
        · exact wpAny_pyNext_zipD2_end S E1 E2 hz hTI hTO h1 h2 (by omega) (by omega) hend fun h' tk hk => hQ h' tk fun c o hc e => hk c o (fun x => hc (by simp [x])) (fun x => hc (by simp [x])) (fun x => hc (by simp [x])) (fun x => hc (by simp [x])) e
        · exact zipH_end S E1 E2 hz hT hTI h1 h2 (by omega) (by omega) hend fun h' tk hk => hQ h' tk fun c o hc e => hk c o (fun x => hc (by simp [x])) (fun x => hc (by simp [x])) (fun x => hc (by simp [x])) e }
end Sb

set_option Elab.async false
set_option linter.all false
set_option maxRecDepth 100000
set_option autoImplicit false
namespace Sb
open PySem PySem.Spec PyProof.Rows L2 TL
theorem sep_of {N a b : Nat} (ha : a < N) (hb : b < N) : ZipSep2 (N + 4) (N + 2) (N + 3) N (N + 1) [N, a] [N + 1, b] := by
  have ne : ∀ {x y : Nat}, x < y → ¬ (x : Addr) = y := fun h e => Nat.ne_of_lt h e
  have en : ∀ {x y : Nat}, y < x → ¬ (x : Addr) = y := fun h e => Nat.ne_of_gt h e
  constructor
  all_goals try simp only [List.mem_cons, List.not_mem_nil, or_false, not_or, true_or]
  all_goals try refine ⟨?_, ?_⟩
  all_goals first | exact ne (by omega) | exact en (by omega)
/-! ### dict(zip(s, t)) -/
def kvz (xs : List Str) (ys : List V) : List (Key × V) := (xs.zip ys).map fun p => (Sum.inr p.1, p.2)
def kvu (xs : List Str) (ys : List Value) : List (Key × Value) := (xs.zip ys).map fun p => (Sum.inr p.1, p.2)
theorem kvz_rel : ∀ {xs : List Str} {ys : List V} {us : List Value}, Vals ys us → KV (kvz xs ys) (kvu xs us)
  | [], _, _, _ => by unfold kvz kvu; rw [List.zip_nil_left, List.zip_nil_left]; exact .nil
  | x :: xs, _, _, .nil => .nil
  | x :: xs, _, _, .cons r t => .cons ⟨rfl, r⟩ (kvz_rel (xs := xs) t)
theorem kvu_get : ∀ {xs : List Str} {ks us : List Value}, Vals (xs.map V.str) ks → ∀ (i : Nat) (k v : Value), ks[i]? = some k → us[i]? = some v → ∃ key : Key, (kvu xs us)[i]? = some (key, v) ∧ keyIs key k = true
  | [], _, _, .nil, _, _, _, h, _ => by simp at h
  | x :: xs, _, [], .cons _ _, _, _, _, _, h => by simp at h
  | x :: xs, _, u :: us, .cons r t, 0, k, v, h1, h2 => by
    obtain ⟨tk, rfl⟩ := r
    cases h1
    cases h2
    exact ⟨.inr x, rfl, keyIs_str x tk⟩
  | x :: xs, _, u :: us, .cons r t, i + 1, k, v, h1, h2 => kvu_get (xs := xs) (us := us) t i k v h1 h2
def tDz (K : PySem.W.Frag) (ta : TA) : TE := fun σ H Q => ta σ H fun vs H1 => ∃ (a b : Addr) (xs : List Str) (ys : List V), vs = [.ref a, .ref b] ∧ SqT K H1 a (xs.map V.str) ∧ SqT K H1 b ys ∧ ∀ p, H1 p = none → Q (.ref p) (upd H1 p (.dK (mergeK [] (kvz xs ys))))
theorem pe_dictZip {X : Cx} {e e2 : Expr} {ta : TA} {p p2 q pos : Pos} (hg : Gl X "dict") (hm : X.mg "dict" = none) (hm2 : X.mg "zip" = none) (ha : PA X [e, e2] ta) (hg2 : Gl X "zip" := by rfl) (hc : X.calm = true := by rfl)
    (hs : starEach [e, e2] X.env = (false, eval e X.env) :: starEach [e2] X.env := by rfl) (hpl : (backTo q (starEach [e2] X.env)).any (·.1) = false := by rfl) :
    PE X (.Call (.Name "dict" p) [.Call (.Name "zip" p2) [e, e2] [] q] [] pos) (tDz X.K ta) := by
  refine ⟨fun pins s σ H Q I h => ?_⟩
  refine Call_ (ld_blt I hg hm PyProof.Rows.boot_dict ?_)
  refine PyProof.Rows.callWith_type1 (PyProof.Rows.args_cons ?_ rfl) rfl rfl
  refine Call_ (ld_blt I hg2 hm2 PyProof.Rows.boot_zip (PyProof.Rows.callWith_type1 (thn (ha.run q pins s σ H _ I h) fun us s1 ⟨vs, H1, I1, r1, q1⟩ => ?_) hs hpl))
  obtain ⟨a, b, xs, ys, rfl, hqx, hqy, q1⟩ := q1
  cases r1 with
  | cons r rr =>
    cases rr with
    | cons r' rr =>
      cases rr
      cases r
      cases r'
      obtain ⟨its, rv, p1, z1⟩ := I1.tuple hqx
      obtain ⟨its2, rv2, p2, z2⟩ := I1.tuple hqy
      have t1 : s1.heap.IsTuple a its.toArray := p1
      have t2 : s1.heap.IsTuple b its2.toArray := p2
      obtain ⟨o1, ho1, _⟩ := id t1
      obtain ⟨o2, ho2, _⟩ := id t2
      have la : a < s1.heap.objs.size := Heap.lt_size ho1
      have lb : b < s1.heap.objs.size := Heap.lt_size ho2
      have hd0 : X.A.handled = none := I1.ok.hd hc
      refine zip_begins2 (begins_tuple a its.toArray) (begins_tuple b its2.toArray) t1 t2 fun h' hz hTI hTO e1 e2 hsz hk => PyProof.Rows.args_nil ?_
      have na : a ≠ s1.heap.objs.size := Nat.ne_of_lt la
      have nb : b ≠ s1.heap.objs.size + 1 := Nat.ne_of_lt (Nat.lt_succ_of_lt lb)
      have there : ∀ (it l : Addr) (items : Array Value) (h : Heap) (i : Nat), (h.IsTupleIter it l i ∧ h.IsTuple l items) → ∀ c ∈ [it, l], ∃ o, h.get? c = some o := fun it l items h i st c hc => by
        obtain ⟨⟨o, ho, _⟩, ⟨o', ho', _⟩⟩ := st
        have e : c = it ∨ c = l := by simpa using hc
        rcases e with e | e
        · rw [e]; exact ⟨o, ho⟩
        · rw [e]; exact ⟨o', ho'⟩
      have len1 : its.length = xs.length := by rw [← rv.length, List.length_map]
      have hln : its.length ≤ sizeLine := by rw [← rv.length]; exact z1
      refine PySem.call_dict_pairs (s := { s1 with heap := h' }) (knd := mixKind X.prog X.w) (kvs := kvu xs its2)
        (pairs_zip (sep_of la lb) (fun A hA => Draws.tuple hA _ a na its.toArray) (fun A hA => Draws.tuple hA _ b nb its2.toArray) (fun h i st => there _ _ _ h i st) (fun h i st => there _ _ _ h i st) X.A hd0)
        hd0 ⟨hz, hTI, ⟨_, _, hTO⟩, ⟨⟨_, e1, rfl, rfl⟩, t1.at fun o z => hk _ _ z⟩, ⟨⟨_, e2, rfl, rfl⟩, t2.at fun o z => hk _ _ z⟩⟩ ⟨?_, fun i k v ⟨x1, x2⟩ => kvu_get rv i k v (by simpa using x1) (by simpa using x2)⟩ ?_ fun h2 tk hd hk2 => ?_
      · unfold kvu
        rw [List.length_map, List.length_zip, List.size_toArray, List.size_toArray, len1]
      · rw [List.size_toArray]
        exact Nat.le_trans (Nat.min_le_left ..) hln
      · have hb : s1.heap.objs.size ≤ h'.objs.size := by rw [hsz]; exact Nat.le_add_right _ _
        have hmm : (h'.objs.size == sysModules) = false := beq_eq_false_iff_ne.mpr (Nat.ne_of_gt (Nat.lt_of_lt_of_le I1.big hb))
        have rel : KV (kvz xs ys) (kvu xs its2) := kvz_rel rv2
        have hlen : (mergeK [] (kvz xs ys)).length ≤ sizeLine := by
          refine Nat.le_trans (length_mergeK _ []) ?_
          rw [List.length_nil, Nat.zero_add]
          unfold kvz
          rw [List.length_map, List.length_zip, ← len1]
          exact Nat.le_trans (Nat.min_le_left ..) hln
        have keep : ∀ c o, s1.heap.get? c = some o → h2.get? c = some o := fun c o e => by
          have lc : c < s1.heap.objs.size := Heap.lt_size e
          refine hk2 c o ?_ (hk c o e)
          simp only [List.mem_cons, List.not_mem_nil, or_false, not_or]
          have lc' : (c : Nat) < s1.heap.objs.size := lc
          refine ⟨?_, ?_, ?_, ?_⟩ <;> (apply Nat.ne_of_lt; first | exact lc | exact Nat.lt_of_lt_of_le lc (Nat.le_add_right _ _))
        exact ⟨.ref h'.objs.size, upd H1 h'.objs.size (.dK (mergeK [] (kvz xs ys))), I1.laid (t' := tk) keep hb (show ObjOk X.prog X.w _ _ _ (.dK (mergeK [] (kvz xs ys))) from ⟨hlen, hmm, merged [] (kvu xs its2), KV.merge rel .nil, hd⟩), rfl, q1 _ (I1.hok.fresh hb)⟩
end Sb

set_option Elab.async false
set_option linter.all false
set_option maxRecDepth 100000
set_option autoImplicit false
namespace Sb
open PySem PySem.Spec PyProof.Rows L2 TL
/-! ### for a, b in zip(l, t), l a list, t a tuple -/
def ItzX (K : PySem.W.Frag) (a b : Addr) : It :=
  ⟨fun i H => ∃ (xs ys : List V) (x y : V), SqL K H a xs ∧ SqT K H b ys ∧ xs[i]? = some x ∧ ys[i]? = some y,
    fun i H v H' => ∃ T x y, v = .ref T ∧ H T = none ∧ H' = upd H T (.tup [x, y]) ∧ (∀ xs, SqL K H a xs → xs[i]? = some x) ∧ ∀ ys, SqT K H b ys → ys[i]? = some y,
    fun i H => ∃ xs ys : List V, SqL K H a xs ∧ SqT K H b ys ∧ i ≤ xs.length ∧ i ≤ ys.length ∧ (i = xs.length ∨ i = ys.length)⟩
theorem turn_zipX {P : Program} {w : World} {K : PySem.W.Frag} {elts : List Expr} {kk : Nat} {tpos : Pos} {a b z TI TO i1 i2 : Addr} (D : ZipSep2 z TI TO i1 i2 [i1, a] [i2, b]) (n1 : a ≠ i1) (n2 : b ≠ i2) :
    Turn P w K (.Tuple elts kk tpos) (ItzX K a b) [z, TI, TO, i1, i2] z (fun i h => IsZip h z TI TO .none ∧ IsTupOf2 h TI (.ref i1) (.ref i2) ∧ (∃ x y, IsTupOf2 h TO x y) ∧ h.IsListIter i1 a i ∧ h.IsTupleIter i2 b i) where
  mem := by simp
  obj := fun i h st c hc => by
    obtain ⟨hz, hTI, ⟨x, y, hTO⟩, ⟨o1, e1, _, d1⟩, ⟨o2, e2, _, d2⟩⟩ := st
    have e' : c = z ∨ c = TI ∨ c = TO ∨ c = i1 ∨ c = i2 := by simpa using hc
    rcases e' with q | q | q | q | q
    · rw [q]; exact ⟨_, hz, fun v q => nomatch q⟩
    · rw [q]; exact ⟨_, hTI, fun v q => nomatch q⟩
    · rw [q]; exact ⟨_, hTO, fun v q => nomatch q⟩
    · rw [q]; exact ⟨o1, e1, fun v q => by rw [d1] at q; cases q⟩
    · rw [q]; exact ⟨o2, e2, fun v q => by rw [d2] at q; cases q⟩
  keep := fun i h h' st k => by
    obtain ⟨hz, hTI, ⟨x, y, hTO⟩, h1, h2⟩ := st
    exact ⟨k z (by simp) _ hz, k TI (by simp) _ hTI, ⟨x, y, k TO (by simp) _ hTO⟩, h1.at fun o q => k i1 (by simp) o q, h2.at fun o q => k i2 (by simp) o q⟩
  item := by
    intro X hP hw hK hc i pins s σ H E I hf st hg
    subst hP hw hK
    obtain ⟨hz, hTI, ⟨x0, y0, hTO⟩, h1, h2⟩ := st
    obtain ⟨xs, ys, x, y, hqx, hqy, hx, hy⟩ := hg
    obtain ⟨its, rv, p, _⟩ := I.list hqx
    obtain ⟨its2, rv2, p2, _⟩ := I.tuple hqy
    obtain ⟨u, hu, ru⟩ := rv.get hx
    obtain ⟨u2, hu2, ru2⟩ := rv2.get hy
    have hzl : z < s.heap.objs.size := Heap.lt_size hz
    have hd0 : X.A.in1.handled = none := I.ok.hd hc
    have l1 : i < its.toArray.size := by have := (List.getElem?_eq_some_iff.mp hu).1; simpa using this
    have l2 : i < its2.toArray.size := by have := (List.getElem?_eq_some_iff.mp hu2).1; simpa using this
    refine wpAny_pyNext_zipD2_item D (Draws.list hd0 i1 a n1 its.toArray) (Draws.tuple hd0 i2 b n2 its2.toArray) hz hTI hTO ⟨h1, p.isList⟩ ⟨h2, (show s.heap.IsTuple b its2.toArray from p2)⟩ l1 l2 fun v1 v2 h' tk y1 y2 z' TO' h1' h2' hT hsz hk => ?_
    have e1 : v1 = u := by
      have q : its[i]? = some v1 := by simpa using y1
      rw [hu] at q
      exact (Option.some.inj q).symm
    have e2 : v2 = u2 := by
      have q : its2[i]? = some v2 := by simpa using y2
      rw [hu2] at q
      exact (Option.some.inj q).symm
    subst e1 e2
    refine ⟨_, rfl, wpAny_letOwnedTupleGo_zip (s := { s with heap := h', toks := tk }) z' fun h'' z'' sb => ?_⟩
    have hT2 : h''.get? s.heap.objs.size = some { cls := .type "tuple", data := .seq #[v1, v2] } := (sb.2 _ (Nat.ne_of_gt hzl)).trans hT
    have new : ObjOk X.prog X.w (upd H s.heap.objs.size (.tup [x, y])) h'' s.heap.objs.size (.tup [x, y]) :=
      ⟨by show 2 ≤ sizeLine; decide, [v1, v2], .cons ru (.cons ru2 .nil), ⟨_, hT2, rfl, _, rfl⟩⟩
    have I1 : Inv X pins σ (upd H s.heap.objs.size (.tup [x, y])) { s with heap := h'', toks := tk } :=
      I.turnedNew (t' := tk) (ch := [z, TI, TO, i1, i2]) (fun c o hb q => (sb.2 c (fun q' => hb (by simp [q']))).trans (hk c o (fun q' => hb (by simp [q'])) (fun q' => hb (by simp [q'])) (fun q' => hb (by simp [q'])) (fun q' => hb (by simp [q'])) q)) hf (Nat.le_refl _) new
    refine ⟨.ref s.heap.objs.size, _, I1, rfl, ⟨_, x, y, rfl, I.hok.fresh (Nat.le_refl _), rfl, fun l hl => by rw [I.list_inj hl hqx]; exact hx, fun l hl => by rw [I.tuple_inj hl hqy]; exact hy⟩, ⟨z'', ?_, ⟨v1, v2, ?_⟩, ?_, ?_⟩, fun c hcm => ?_⟩
    · exact (sb.2 _ D.TIz).trans (hk _ _ D.TIz D.TITO D.TIi1 D.TIi2 hTI)
    · exact (sb.2 _ D.TOz).trans TO'
    · exact h1'.1.at fun o q => (sb.2 _ D.zi1.symm).trans q
    · exact h2'.1.at fun o q => (sb.2 _ D.zi2.symm).trans q
    · have hlt : c < s.heap.objs.size := by
        have e' : c = z ∨ c = TI ∨ c = TO ∨ c = i1 ∨ c = i2 := by simpa using hcm
        rcases e' with q | q | q | q | q
        · rw [q]; exact hzl
        · rw [q]; exact Heap.lt_size hTI
        · rw [q]; exact Heap.lt_size hTO
        · rw [q]; obtain ⟨_, e1, _⟩ := h1; exact Heap.lt_size e1
        · rw [q]; obtain ⟨_, e2, _⟩ := h2; exact Heap.lt_size e2
      rw [upd_ne (Nat.ne_of_lt hlt)]
      exact (hf c hcm).1
  done := by
    intro X hP hw hK hc i pins s σ H E I hf st hg
    subst hP hw hK
    obtain ⟨hz, hTI, ⟨x0, y0, hTO⟩, h1, h2⟩ := st
    obtain ⟨xs, ys, hqx, hqy, g1, g2, hend⟩ := hg
    obtain ⟨its, rv, p, _⟩ := I.list hqx
    obtain ⟨its2, rv2, p2, _⟩ := I.tuple hqy
    have l1 := rv.length
    have l2 := rv2.length
    have hd0 : X.A.in1.handled = none := I.ok.hd hc
    exact wpAny_pyNext_zipD2_end D (Draws.list hd0 i1 a n1 its.toArray) (Draws.tuple hd0 i2 b n2 its2.toArray) hz hTI hTO ⟨h1, p.isList⟩ ⟨h2, (show s.heap.IsTuple b its2.toArray from p2)⟩
      (by rw [List.size_toArray]; omega) (by rw [List.size_toArray]; omega) (by rw [List.size_toArray, List.size_toArray]; omega) fun h' tk hk => ⟨rfl, I.turnedL (t' := tk) (ch := [z, TI, TO, i1, i2]) (fun c o hb q =>
      hk c o (fun q' => hb (by simp [q'])) (fun q' => hb (by simp [q'])) (fun q' => hb (by simp [q'])) (fun q' => hb (by simp [q'])) q) hf⟩
  self := fun A i s Q E st h => wpAny_pyIter_zip st.1 h
def iZipX (K : PySem.W.Frag) (ta : TA) : TI := fun σ H R => ta σ H fun vs H1 => ∃ a b xs ys, vs = [.ref a, .ref b] ∧ SqL K H1 a xs ∧ SqT K H1 b ys ∧ R (ItzX K a b) H1
theorem pi_zipX {X : Cx} {e e2 : Expr} {ta : TA} {p pos tpos : Pos} {elts : List Expr} {kk : Nat} (hg : Gl X "zip") (hm : X.mg "zip" = none) (ha : PA X [e, e2] ta)
    (hs : starEach [e, e2] X.env = (false, eval e X.env) :: starEach [e2] X.env := by rfl) (hpl : (backTo pos (starEach [e2] X.env)).any (·.1) = false := by rfl) :
    PI X (.Tuple elts kk tpos) (.Call (.Name "zip" p) [e, e2] [] pos) (iZipX X.K ta) := by
  refine ⟨fun pins s σ H R I h => ?_⟩
  refine Call_ (ld_blt I hg hm PyProof.Rows.boot_zip (PyProof.Rows.callWith_type1 (thn (ha.run pos pins s σ H _ I h) fun us s1 ⟨vs, H1, I1, r1, q1⟩ => ?_) hs hpl))
  obtain ⟨a, b, xs, ys, ex, hqx, hqy, q⟩ := q1
  subst ex
  cases r1 with
  | cons r rr =>
    cases rr with
    | cons r' rr =>
      cases rr
      cases r
      cases r'
      have fresh5 : ∀ c, c ∈ [s1.heap.objs.size + 4, s1.heap.objs.size + 2, s1.heap.objs.size + 3, s1.heap.objs.size, s1.heap.objs.size + 1] → FpOk X pins H1 c := fun c hcm => by
        have e' : c = s1.heap.objs.size + 4 ∨ c = s1.heap.objs.size + 2 ∨ c = s1.heap.objs.size + 3 ∨ c = s1.heap.objs.size ∨ c = s1.heap.objs.size + 1 := by simpa using hcm
        have hle : s1.heap.objs.size ≤ c := by
          rcases e' with z | z | z | z | z
          · rw [z]; exact Nat.le_add_right _ _
          · rw [z]; exact Nat.le_add_right _ _
          · rw [z]; exact Nat.le_add_right _ _
          · rw [z]; exact Nat.le_refl _
          · rw [z]; exact Nat.le_add_right _ _
        exact I1.fpOk hle (I1.hok.fresh hle)
      obtain ⟨its, rv, p1, _⟩ := I1.list hqx
      obtain ⟨its2, rv2, p2, _⟩ := I1.tuple hqy
      have t2 : s1.heap.IsTuple b its2.toArray := p2
      obtain ⟨o2, ho2, _⟩ := id t2
      have la : a < s1.heap.objs.size := p1.lt
      have lb : b < s1.heap.objs.size := Heap.lt_size ho2
      refine zip_begins2 (begins_list a its.toArray) (begins_tuple b its2.toArray) p1.isList t2 fun h' hz hTI hTO h1 h2 hsz hk => wpAny_pyIter_zip hz ?_
      have I2 : Inv X pins σ H1 { s1 with heap := h' } := I1.kept (t' := s1.toks) hk
      exact ⟨s1.heap.objs.size + 4, [s1.heap.objs.size + 4, s1.heap.objs.size + 2, s1.heap.objs.size + 3, s1.heap.objs.size, s1.heap.objs.size + 1], _, _, H1, rfl, I2, turn_zipX (sep_of la lb) (Nat.ne_of_lt la) (Nat.ne_of_lt (Nat.lt_succ_of_lt lb)), ⟨hz, hTI, ⟨_, _, hTO⟩, ⟨_, h1, rfl, rfl⟩, ⟨_, h2, rfl, rfl⟩⟩, fresh5, q⟩
/-! ### what they give -/
variable {K : KX} {S : List Addr} {G : List Sl}
def zipD (xs ys : List Dt) : List Dt := (xs.zip ys).map fun p => .tup [p.1, p.2]
theorem wk_zipX {ta : TA} {xs ys : List Dt} (h : Ea K S G ta (· = [.lst xs, .tup ys])) : Wk K S G (iZipX K ta) (· = zipD xs ys) := fun B O σ H hh R k =>
  h B O σ H hh _ fun vs H1 es he h1 g1 d1 => by
    subst he
    obtain ⟨v, r, rfl, ⟨a, us, rfl, s1, s2⟩, v2, r2, rfl, ⟨b, ws, rfl, t1, t2⟩, e3⟩ := d1
    cases (show r2 = [] from e3)
    have hl := DnA.len s2
    have hm := DnA.len t2
    have hz : (zipD xs ys).length = min us.length ws.length := by unfold zipD; rw [List.length_map, List.length_zip, hl, hm]
    have sq : ∀ {H' : Hp}, ExN (hid H1 (pof O G)) H' → SqL K H' a us := fun e => SqL.of (e _ _ s1 nt_lst)
    refine ⟨a, b, us, ws, rfl, SqL.of (hid_ex _ _ _ s1), (hid_ex _).sqT t1, k _ _ _ rfl h1 g1 ⟨fun i H' e hi => ?_, fun H' e => ?_, fun i H' x H2 d e hi y => ?_⟩⟩
    · rw [hz] at hi
      exact ⟨us, ws, us[i]'(by omega), ws[i]'(by omega), sq e, e.sqT t1, List.getElem?_eq_getElem _, List.getElem?_eq_getElem _⟩
    · refine ⟨us, ws, sq e, e.sqT t1, ?_, ?_, ?_⟩ <;> rw [hz] <;> omega
    · obtain ⟨T, z, z2, rfl, hT, rfl, hz1, hz2⟩ := y
      unfold zipD at hi
      rw [List.getElem?_map] at hi
      cases q : (xs.zip ys)[i]? with
      | none => rw [q] at hi; cases hi
      | some pr =>
        rw [q] at hi
        cases hi
        rw [List.getElem?_zip_eq_some] at q
        obtain ⟨v, q1, q2⟩ := DnA.get s2 q.1
        obtain ⟨v', q3, q4⟩ := DnA.get t2 q.2
        have := hz1 us (sq e)
        rw [q1] at this
        cases this
        have := hz2 ws (e.sqT t1)
        rw [q3] at this
        cases this
        exact ⟨new_ex hT, fun P t eb => new_tup t hT ⟨_, _, rfl, Dn.mono eb _ q2, _, _, rfl, Dn.mono eb _ q4, rfl⟩⟩
theorem putK_new {k : Key} {v : V} {kvs : List (Key × V)} (h : ∀ q ∈ kvs, q.1 ≠ k) : putK kvs k v = kvs ++ [(k, v)] := by
  unfold putK
  rw [if_neg]
  rw [List.any_eq_true]
  rintro ⟨q, hq, e⟩
  exact h q hq (of_decide_eq_true e)
theorem mergeK_new : ∀ {more kvs : List (Key × V)}, (more.map (·.1)).Nodup → (∀ q ∈ kvs, ∀ r ∈ more, q.1 ≠ r.1) → mergeK kvs more = kvs ++ more
  | [], kvs, _, _ => by unfold mergeK; simp
  | m :: more, kvs, nd, h => by
    have e1 : mergeK kvs (m :: more) = mergeK (putK kvs m.1 m.2) more := rfl
    rw [List.map_cons] at nd
    obtain ⟨n1, n2⟩ := List.nodup_cons.mp nd
    rw [e1, putK_new fun q hq => h q hq m (by simp), mergeK_new n2 fun q hq r hr => ?_]
    · simp
    · rcases List.mem_append.mp hq with z | z
      · exact h q z r (by simp [hr])
      · have e : q = m := by simpa using z
        subst e
        exact fun z => n1 (by rw [z]; exact List.mem_map_of_mem hr)
theorem dnK_zip {H : Hp} : ∀ {xs : List Str} {ds : List Dt} {ys : List V}, DnA K H ds ys → DnK K H (xs.zip ds) (kvz xs ys)
  | [], _, _, _ => by unfold kvz; rw [List.zip_nil_left, List.zip_nil_left]; exact rfl
  | x :: xs, [], _, h => by cases (show _ = [] from h); exact rfl
  | x :: xs, d :: ds, _, h => by
    obtain ⟨v, r, rfl, h1, h2⟩ := h
    exact ⟨v, _, rfl, h1, dnK_zip (xs := xs) h2⟩
theorem kvz_keys : ∀ {xs : List Str} {ys : List V}, xs.length = ys.length → (kvz xs ys).map (·.1) = xs.map (Sum.inr : Str → Key)
  | [], [], _ => rfl
  | [], _ :: _, h => by cases h
  | _ :: _, [], h => by cases h
  | x :: xs, y :: ys, h => by
    have ih := kvz_keys (xs := xs) (ys := ys) (by simpa using h)
    show Sum.inr x :: (kvz xs ys).map (·.1) = Sum.inr x :: xs.map Sum.inr
    rw [ih]
theorem ed_dz {ta : TA} {xs : List Str} {ys : List Dt} (h : Ea K S G ta (· = [.tup (strsD xs), .tup ys])) (hn : xs.Nodup) (hl : xs.length = ys.length) : Eg K S G (tDz K ta) (· = .dic (xs.zip ys)) := fun B O σ H hh Q k =>
  h B O σ H hh _ fun vs H1 es he h1 g1 d1 => by
    subst he
    obtain ⟨v, r, rfl, ⟨a, us, rfl, s1, s2⟩, v2, r2, rfl, ⟨b, ws, rfl, t1, t2⟩, e3⟩ := d1
    cases (show r2 = [] from e3)
    have ex : us = xs.map V.str := dnA_v s2 (by unfold strsD; rw [List.map_map, List.map_map]; rfl)
    subst ex
    have hk := kvz_keys (xs := xs) (ys := ws) (by rw [hl, DnA.len t2])
    have nd : ((kvz xs ws).map (·.1)).Nodup := by
      rw [hk]
      exact List.Pairwise.map _ (fun x y ne e => ne (Sum.inr.inj e)) hn
    have em : mergeK [] (kvz xs ws) = kvz xs ws := by rw [mergeK_new nd fun q hq => by cases hq]; rfl
    refine ⟨a, b, xs, ws, rfl, (hid_ex _).sqT s1, (hid_ex _).sqT t1, fun p hp => ?_⟩
    rw [em]
    exact k _ _ _ rfl (h1.more (new_ex hp)) (g1.trans (hid_new hp)) ⟨p, _, rfl, by rw [hid_out (h1.fresh hp)]; exact upd_same, DnK.mono (hid_new hp) _ (dnK_zip t2)⟩
end Sb

set_option Elab.async false
set_option linter.all false
set_option maxRecDepth 100000
set_option autoImplicit false
namespace Sb
open PySem PySem.Spec PyProof.Rows L2 TL
abbrev s_Rule___init__ : Stmt := inClass (top 31) 0
abbrev N_Rule___init__ : List Str := ["self", "seats", "lines", "rows", "terms", "steps"]
abbrev A_Rule___init__ : List Str := ["self", "seats", "lines", "rows"]
theorem sc_Rule___init__ : FnScope N_Rule___init__ A_Rule___init__ (defScope s_Rule___init__) :=
  ⟨rfl, rfl, rfl, by decide +kernel, rfl, by decide +kernel, by decide +kernel⟩
abbrev s_Rule_seats : Stmt := inClass (top 31) 2
abbrev N_Rule_seats : List Str := ["self"]
abbrev A_Rule_seats : List Str := ["self"]
theorem sc_Rule_seats : FnScope N_Rule_seats A_Rule_seats (defScope s_Rule_seats) :=
  ⟨rfl, rfl, rfl, by decide +kernel, rfl, by decide +kernel, by decide +kernel⟩
abbrev s_Rule_lines : Stmt := inClass (top 31) 3
abbrev N_Rule_lines : List Str := ["self"]
abbrev A_Rule_lines : List Str := ["self"]
theorem sc_Rule_lines : FnScope N_Rule_lines A_Rule_lines (defScope s_Rule_lines) :=
  ⟨rfl, rfl, rfl, by decide +kernel, rfl, by decide +kernel, by decide +kernel⟩
abbrev s_Rule_worths : Stmt := inClass (top 31) 13
abbrev N_Rule_worths : List Str := ["self", "bids", "found", "name", "term"]
abbrev A_Rule_worths : List Str := ["self", "bids"]
theorem sc_Rule_worths : FnScope N_Rule_worths A_Rule_worths (defScope s_Rule_worths) :=
  ⟨rfl, rfl, rfl, by decide +kernel, rfl, by decide +kernel, by decide +kernel⟩
abbrev s_Rule_outcome : Stmt := inClass (top 31) 11
abbrev N_Rule_outcome : List Str := ["self", "bids", "worths", "reached", "condition", "done"]
abbrev A_Rule_outcome : List Str := ["self", "bids"]
theorem sc_Rule_outcome : FnScope N_Rule_outcome A_Rule_outcome (defScope s_Rule_outcome) :=
  ⟨rfl, rfl, rfl, by decide +kernel, rfl, by decide +kernel, by decide +kernel⟩
section
variable {P : Program} {w : World} {K : KX} {mg : Str → Option Value} {base : Heap} {aS aO C : Addr}
structure RC (K : PySem.W.Frag) (C : Addr) : Prop where
  cls : Cls K C
  n_passed : NoAttr K C "passed"
  n_terms : NoAttr K C "terms"
  n_steps : NoAttr K C "steps"
  n_text : NoAttr K C "text"
def ruleF (seats : List Str) (rows : List Row) : List (Str × Dt) := [("passed", .tup [.tup (strsD seats), .tup [], .tup (txD rows)]), ("terms", .tup []), ("steps", .tup (stD rows)), ("text", .str (Txt.join sNl (texts seats rows)))]
structure RuIn where
  seats : List Str
  rows : List Row
def RuIn.ok (a : RuIn) : Prop := SeatsOk a.seats ∧ RowsOk a.seats a.seats a.rows
theorem names_nil (seats : List Str) : seats ++ ([] : List (Str × Str)).map (·.1) = seats := by simp
abbrev sp_Rule (K : KX) (C : Addr) : Sp := spI K C (fun a : RuIn => [Dt.tup (strsD a.seats), .tup [], .tup (txD a.rows)]) RuIn.ok (fun a => ruleF a.seats a.rows)
theorem ok_Rule___init__ {f : Addr} {fd : FuncData} (F : Fun K "__init__" "Rule.__init__" s_Rule___init__ f fd) (R : RC K C) (B : Bf K mg aS aO) (c_check_seats : Cal P w K mg base 2 "check_seats" (sp_check_seats K)) (c_check_lines : Cal P w K mg base 3 "check_lines" (sp_check_lines K))
    (c_read_terms : Cal P w K mg base 4 "read_terms" (sp_read_terms K)) (c_read_steps : Cal P w K mg base 5 "read_steps" (sp_read_steps K)) (c_names_of : Cal P w K mg base 1 "names_of" (sp_names_of K)) (c_text_of : Cal P w K mg base 1 "text_of" (sp_text_of K)) :
    FnOk P w K mg base CX0 6 f fd A_Rule___init__ (sp_Rule K C) := by
  refine fn_init F sc_Rule___init__ (fun _ => rfl) fun cdv A outer s H E hr => ⟨_, (pss_cons (ps_expr (pe_c c_check_seats hr (by decide) (by rfl) (pa_cons (pv 1) pa_nil))) (pss_cons (ps_expr (pe_c c_check_lines hr (by decide) (by rfl) (pa_cons (pv 2) (pa_cons (pv 1) pa_nil)))) (pss_cons (ps_set (i := 4) sc_Rule___init__.nd rfl (Or.inl rfl) (pe_c c_read_terms hr (by decide) (by rfl) (pa_cons (pv 2) (pa_cons (pv 1) pa_nil)))) (pss_cons (ps_set (i := 5) sc_Rule___init__.nd rfl (Or.inl rfl) (pe_c c_read_steps hr (by decide) (by rfl) (pa_cons (pv 3) (pa_cons (pv 1) (pa_cons (pe_c c_names_of hr (by decide) (by rfl) (pa_cons (pv 1) (pa_cons (pv 2) pa_nil))) pa_nil))))) (pss_cons (ps_fld (pv 0) (pe_tup (pa_cons (pv 1) (pa_cons (pv 2) (pa_cons (pv 3) pa_nil)))) rfl) (pss_cons (ps_fld (pv 0) (pv 4) rfl) (pss_cons (ps_fld (pv 0) (pv 5) rfl) (pss_one (ps_fld (pv 0) (pe_c c_text_of hr (by decide) (by rfl) (pa_cons (pv 1) (pa_cons (pv 2) (pa_cons (pv 3) pa_nil)))) rfl))))))))), fun a ha B O x dx σ H D hh k => ?_⟩
  obtain ⟨seats, rows⟩ := a
  have h1 : SeatsOk seats := ha.1
  have h2 : RowsOk seats seats rows := ha.2
  have h4 := h1.n4
  refine hold_seq (N1 := (· = [.rf x, .da (.tup (strsD seats)), .da (.tup []), .da (.tup (txD rows)), .un, .un])) (run_drop (ed_callX (out := fun _ : List Str => Dt.non) seats (ea_1 (eg_var rfl)) h1) rfl) hh fun G1 σ H e hh => ?_
  subst e
  refine hold_seq (N1 := (· = [.rf x, .da (.tup (strsD seats)), .da (.tup []), .da (.tup (txD rows)), .un, .un])) (run_drop (ed_callX (out := fun _ : List Str => Dt.non) seats (ea_2 (eg_var rfl) (eg_var rfl)) h1) rfl) hh fun G1 σ H e hh => ?_
  subst e
  refine hold_seq (N1 := (· = [.rf x, .da (.tup (strsD seats)), .da (.tup []), .da (.tup (txD rows)), .da (.tup []), .un])) (run_set (s := .un) (ed_callX (out := fun _ : List Str => Dt.tup []) seats (ea_2 (eg_var rfl) (eg_var rfl)) h1) rfl rfl fun d e => by rw [e]; rfl) hh fun G1 σ H e hh => ?_
  subst e
  have hnm : ∀ {G : List Sl} {ta tb : TE}, Eg K [] G ta (· = .tup (strsD seats)) → Eg K [] G tb (· = .tup []) → Eg K [] G (tCall (sp_names_of K) [] E0 (tCons ta (tCons tb tNil))) (· = .lst (strsD seats)) := fun ha hb =>
    eg_eq (ed_callX (out := fun a : NamesIn => Dt.lst (strsD (a.seats ++ a.lines.map (·.1)))) ⟨seats, []⟩ (ea_2 ha hb) ⟨by show seats.length ≤ 100; omega, by show 0 ≤ 100; omega⟩) (by rw [names_nil])
  refine hold_seq (N1 := (· = [.rf x, .da (.tup (strsD seats)), .da (.tup []), .da (.tup (txD rows)), .da (.tup []), .da (.tup (stD rows))])) (run_set (s := .un) (ed_callX (out := fun a : RowsIn => Dt.tup (stD a.rows)) ⟨rows, seats, seats⟩ (ea_3 (eg_var rfl) (eg_var rfl) (hnm (eg_var rfl) (eg_var rfl))) ⟨h2, h1.ok, by show seats.length ≤ 9; omega, h1.ok, by show seats.length ≤ 100; omega⟩) rfl rfl fun d e => by rw [e]; rfl) hh fun G1 σ H e hh => ?_
  subst e
  refine fld_step (D := { D with nx := _ }) (i := 0) (ds := []) (fs := []) hh rfl R.cls R.n_passed (ed_tup (ea_3 (eg_var rfl) (eg_var rfl) (eg_var rfl))) rfl (by decide) rfl fun H fs hh hf => ?_
  refine fld_step (D := { D with nx := _ }) (i := 0) hh rfl R.cls R.n_terms (eg_var rfl) hf (by show 1 < 100; decide) rfl fun H fs hh hf => ?_
  refine fld_step (D := { D with nx := _ }) (i := 0) hh rfl R.cls R.n_steps (eg_var rfl) hf (by show 2 < 100; decide) rfl fun H fs hh hf => ?_
  have htx : ∀ {G : List Sl} {ta tb tc : TE}, Eg K [] G ta (· = .tup (strsD seats)) → Eg K [] G tb (· = .tup []) → Eg K [] G tc (· = .tup (txD rows)) → Eg K [] G (tCall (sp_text_of K) [] E0 (tCons ta (tCons tb (tCons tc tNil)))) (· = .str (Txt.join sNl (texts seats rows))) := fun ha hb hc =>
    ed_callX (out := fun a : TextIn => Dt.str (Txt.join sNl (texts a.seats a.rows))) ⟨seats, rows, seats⟩ (ea_3 ha hb hc) ⟨h1, h2, h1.ok⟩
  refine fld_step (D := D) (i := 0) hh rfl R.cls R.n_text (htx (eg_var rfl) (eg_var rfl) (eg_var rfl)) hf (by show 3 < 100; decide) rfl fun H fs hh hf => ?_
  refine k _ _ _ _ hh rfl ?_
  have ep : ∀ (G : List Sl), ads G = [] → pof O G = op O := fun G e => by unfold pof; rw [e, List.append_nil]; rfl
  rw [ep _ rfl] at hf
  exact hf
/-! ### properties -/
abbrev sp_seats (K : KX) (C : Addr) : Sp := spX K (fun a : RuIn => [Dt.obj C (ruleF a.seats a.rows)]) (fun _ => True) (fun a e => e = .tup (strsD a.seats))
theorem ok_Rule_seats {f : Addr} {fd : FuncData} (F : Fun K "seats" "Rule.seats" s_Rule_seats f fd) (R : RC K C) : FnOk P w K mg base CX0 1 f fd A_Rule_seats (sp_seats K C) := by
  refine fn_x F sc_Rule_seats (fun _ => rfl) fun cdv A outer s H E hr => ⟨_, (pss_one (ps_ret (pe_ix (ix_anyK (K := K)) (pe_fld (pv 0) rfl) pe_int (fun _ _ => rfl)))), fun a ha => ?_⟩
  exact run_ret (ed_ixT (eg_fld (eg_var rfl) R.cls R.n_passed rfl) eg_int rfl)
abbrev sp_lines (K : KX) (C : Addr) : Sp := spX K (fun a : RuIn => [Dt.obj C (ruleF a.seats a.rows)]) (fun _ => True) (fun _ e => e = .tup [])
theorem ok_Rule_lines {f : Addr} {fd : FuncData} (F : Fun K "lines" "Rule.lines" s_Rule_lines f fd) (R : RC K C) : FnOk P w K mg base CX0 1 f fd A_Rule_lines (sp_lines K C) := by
  refine fn_x F sc_Rule_lines (fun _ => rfl) fun cdv A outer s H E hr => ⟨_, (pss_one (ps_ret (pe_ix (ix_anyK (K := K)) (pe_fld (pv 0) rfl) pe_int (fun _ _ => rfl)))), fun a ha => ?_⟩
  exact run_ret (ed_ixT (eg_fld (eg_var rfl) R.cls R.n_passed rfl) eg_int rfl)
/-! ### worths -/
structure WoIn where
  seats : List Str
  rows : List Row
  bids : List Int
def WoIn.ok (a : WoIn) : Prop := SeatsOk a.seats ∧ a.bids.length = a.seats.length
theorem wsD_zip (xs : List Str) (ys : List Int) : xs.zip (intsD ys) = wsD (xs.zip ys) := by
  unfold intsD wsD
  rw [List.zip_map_right]
  apply List.map_congr_left
  intro p _
  rfl
abbrev sp_worths (K : KX) (C : Addr) : Sp := spX K (fun a : WoIn => [Dt.obj C (ruleF a.seats a.rows), .tup (intsD a.bids)]) WoIn.ok (fun a e => e = .dic (wsD (a.seats.zip a.bids)))
theorem ok_Rule_worths {f : Addr} {fd : FuncData} (F : Fun K "worths" "Rule.worths" s_Rule_worths f fd) (R : RC K C) (B : Bf K mg aS aO) (p_seats : PrX P w K mg base 1 C "seats" (sp_seats K C)) (p_lines : PrX P w K mg base 1 C "lines" (sp_lines K C)) (c_names_of : Cal P w K mg base 1 "names_of" (sp_names_of K)) :
    FnOk P w K mg base CX0 3 f fd A_Rule_worths (sp_worths K C) := by
  refine fn_x F sc_Rule_worths (fun _ => rfl) fun cdv A outer s H E hr => ⟨_, (pss_cons (ps_set (i := 2) sc_Rule_worths.nd rfl (Or.inl rfl) (pe_dictZip (by rfl) B.n_dict B.n_zip (pa_cons (pe_propX p_seats hr (by decide) (pv 0)) (pa_cons (pv 1) pa_nil)))) (pss_cons (ps_for PassesOwn.never rfl (pi_zipX rfl B.n_zip (pa_cons (pe_c c_names_of hr (by decide) (by rfl) (pa_cons (pe_tup pa_nil) (pa_cons (pe_propX p_lines hr (by decide) (pv 0)) pa_nil))) (pa_cons (pe_fld (pv 0) rfl) pa_nil))) (pg_tup rfl (pgs_cons (pg_name (i := 3) sc_Rule_worths.nd rfl (Or.inl rfl)) (pgs_cons (pg_name (i := 4) sc_Rule_worths.nd rfl (Or.inl rfl)) pgs_nil))) (pss_one ps_never)) (pss_one (ps_ret (pv 2))))), fun a ha => ?_⟩
  obtain ⟨seats, rows, bids⟩ := a
  have h1 : SeatsOk seats := ha.1
  have hl : bids.length = seats.length := ha.2
  refine q_set (d := .dic (wsD (seats.zip bids))) (eg_eq (ed_dz (xs := seats) (ys := intsD bids) (ea_2 (eg_propX (⟨seats, rows⟩ : RuIn) (eg_var rfl) rfl trivial fun _ e => e) (eg_var rfl)) h1.nd (by rw [intsD_len]; exact hl.symm)) (by rw [wsD_zip])) ?_
  refine run_seq (N1 := (· = [.da (.obj C (ruleF seats rows)), .da (.tup (intsD bids)), .da (.dic (wsD (seats.zip bids))), .un, .un]))
    (run_forD (ds := zipD (strsD []) []) (fun i G => G = [.da (.obj C (ruleF seats rows)), .da (.tup (intsD bids)), .da (.dic (wsD (seats.zip bids))), .un, .un])
      (wk_zipX (ea_2 (ed_callX (out := fun a : NamesIn => Dt.lst (strsD (a.seats ++ a.lines.map (·.1)))) ⟨[], []⟩ (ea_2 (ed_tup ea_nil (by show 0 ≤ 100000; omega)) (eg_propX (⟨seats, rows⟩ : RuIn) (eg_var rfl) rfl trivial fun _ e => e)) ⟨by show 0 ≤ 100; omega, by show 0 ≤ 100; omega⟩) (eg_fld (eg_var rfl) R.cls R.n_terms rfl))) rfl
      (fun i d G1 hd _ => by cases hd) fun G1 e => e) fun G1 e => ?_
  subst e
  exact run_ret (eg_var rfl)
end
end Sb

set_option Elab.async false
set_option linter.all false
set_option maxRecDepth 100000
set_option autoImplicit false
namespace Sb
open PySem PySem.Spec PyProof.Rows L2 TL
section
variable {P : Program} {w : World} {K : KX} {mg : Str → Option Value} {base : Heap} {aS aO C : Addr}
/-! ### conditions, told by their data -/
def ptv (ws : List (Str × Int)) : Dt → Int
  | .str x => (ws.lookup x).getD 0
  | .int i => i
  | _ => 0
def cev (ws : List (Str × Int)) : Dt → Bool
  | .tup [a, .str s, b] => if s = sLt then decide (ptv ws a < ptv ws b) else decide (ptv ws a ≤ ptv ws b)
  | _ => true
def rowB (ws : List (Str × Int)) : Dt → Bool
  | .tup [c, _] => cev ws c
  | _ => false
def rowF : Dt → Dt
  | .tup [_, e] => e
  | _ => .non
theorem ptv_d (ws : List (Str × Int)) (p : Pt) : ptv ws p.d = p.val ws := by cases p <;> rfl
theorem cev_d (ws : List (Str × Int)) (o : Option Cond) : cev ws (oc o) = oev ws o := by
  cases o with
  | none => rfl
  | some c =>
    obtain ⟨p, st, q⟩ := c
    show (if (Cond.sg ⟨p, st, q⟩) = sLt then decide (ptv ws p.d < ptv ws q.d) else decide (ptv ws p.d ≤ ptv ws q.d)) = Cond.ev ws ⟨p, st, q⟩
    rw [ptv_d, ptv_d]
    cases st with
    | true => rfl
    | false =>
      have e : ¬ Cond.sg ⟨p, false, q⟩ = sLt := by
        show ¬ sLe = sLt
        decide +kernel
      rw [if_neg e]
      rfl
theorem row_dt (r : Row) : r.dt = .tup [oc r.c, r.d.d] := by
  obtain ⟨c, d⟩ := r
  cases c <;> rfl
theorem reached_eq (ws : List (Str × Int)) : ∀ rows : List Row, ((stD rows).filter (rowB ws)).map rowF = (rows.filter fun r => oev ws r.c).map fun r => r.d.d
  | [] => rfl
  | r :: rows => by
    have ih := reached_eq ws rows
    have e1 : stD (r :: rows) = r.dt :: stD rows := rfl
    have e2 : rowB ws r.dt = oev ws r.c := by rw [row_dt]; exact cev_d ws r.c
    rw [e1, List.filter_cons, List.filter_cons, e2]
    cases oev ws r.c with
    | false => exact ih
    | true =>
      show rowF r.dt :: ((stD rows).filter (rowB ws)).map rowF = r.d.d :: (rows.filter fun r => oev ws r.c).map fun r => r.d.d
      rw [ih, row_dt]
      rfl
def firstD (ws : List (Str × Int)) (rows : List Row) : Deed := match rows.find? (fun r => oev ws r.c) with
  | some r => r.d
  | none => .keep
theorem first_at (ws : List (Str × Int)) : ∀ {rows : List Row}, (∃ r ∈ rows, r.c = none) → ∃ r ∈ rows, firstD ws rows = r.d ∧ atI ((rows.filter fun r => oev ws r.c).map fun r => r.d.d) 0 = some r.d.d
  | [], h => by obtain ⟨r, hr, _⟩ := h; cases hr
  | a :: rows, h => by
    cases e : oev ws a.c with
    | true =>
      refine ⟨a, by simp, ?_, ?_⟩
      · unfold firstD
        rw [List.find?_cons_of_pos (p := fun r : Row => oev ws r.c) e]
      · rw [List.filter_cons, e]
        exact at0
    | false =>
      have h' : ∃ r ∈ rows, r.c = none := by
        obtain ⟨r, hr, n⟩ := h
        rcases List.mem_cons.mp hr with z | z
        · rw [← z, n] at e
          cases e
        · exact ⟨r, z, n⟩
      obtain ⟨r, hr, e1, e2⟩ := first_at ws h'
      refine ⟨r, by simp [hr], ?_, ?_⟩
      · unfold firstD
        rw [List.find?_cons_of_neg (p := fun r : Row => oev ws r.c) (by show ¬ oev ws a.c = true; rw [e]; exact Bool.false_ne_true)]
        exact e1
      · rw [List.filter_cons, e]
        exact e2
theorem zip_has : ∀ {xs : List Str} {ys : List Int}, ys.length = xs.length → ∀ {x : Str}, x ∈ xs → ∃ v, (xs.zip ys).lookup x = some v
  | [], _, _, _, h => by cases h
  | _ :: _, [], h, _, _ => by cases h
  | a :: xs, b :: ys, h, x, hx => by
    show ∃ v, List.lookup x ((a, b) :: xs.zip ys) = some v
    rw [List.lookup_cons]
    cases q : x == a with
    | true => exact ⟨b, rfl⟩
    | false =>
      rcases List.mem_cons.mp hx with z | z
      · rw [z] at q
        simp at q
      · exact zip_has (xs := xs) (ys := ys) (by simpa using h) z
theorem pt_has {xs : List Str} {ys : List Int} (hl : ys.length = xs.length) {p : Pt} (h : p.ok xs) : p.has (xs.zip ys) := by
  cases p with
  | nm x => exact zip_has hl h
  | nu n => trivial
/-! ### outcome -/
structure OutIn where
  seats : List Str
  rows : List Row
  bids : List Int
structure OutIn.ok (a : OutIn) : Prop where
  seats : SeatsOk a.seats
  rows : RowsOk a.seats a.seats a.rows
  len : a.bids.length = a.seats.length
  nn : ∀ b ∈ a.bids, 0 ≤ b
  named : ∀ r ∈ a.rows, ∀ w p, r.d = .sell w p → ∃ x, w = .seat x
theorem last_none {seats ns : List Str} {rows : List Row} (h : RowsOk seats ns rows) : ∃ r ∈ rows, r.c = none := by
  have n1 := h.n1
  have hl : rows.length - 1 < rows.length := by omega
  have e : rows[rows.length - 1]? = some rows[rows.length - 1] := List.getElem?_eq_getElem hl
  refine ⟨_, List.getElem_mem hl, ?_⟩
  have := h.last _ _ e
  have q : decide (((rows.length - 1 : Nat) : Int) = (rows.length : Int) - 1) = true := decide_eq_true (by omega)
  rw [q] at this
  revert this
  cases (rows[rows.length - 1]'hl).c with
  | none => intro _; rfl
  | some c => intro z; cases z
abbrev sp_outcome (K : KX) (C : Addr) : Sp := spX K (fun a : OutIn => [Dt.obj C (ruleF a.seats a.rows), .tup (intsD a.bids)]) OutIn.ok (fun a e => e = (firstD (a.seats.zip a.bids) a.rows).res (a.seats.zip a.bids))
theorem ok_Rule_outcome {f : Addr} {fd : FuncData} (F : Fun K "outcome" "Rule.outcome" s_Rule_outcome f fd) (R : RC K C) (B : Bf K mg aS aO) (p_seats : PrX P w K mg base 1 C "seats" (sp_seats K C)) (c_check_bids : Cal P w K mg base 2 "check_bids" (sp_check_bids K))
    (m_worths : Met P w K mg base 3 C "worths" (sp_worths K C)) (c_holds : Cal P w K mg base 3 "holds" (sp_holds K)) (c_sale : Cal P w K mg base 3 "sale" (sp_sale K)) :
    FnOk P w K mg base CX0 4 f fd A_Rule_outcome (sp_outcome K C) := by
  refine fn_x F sc_Rule_outcome (fun _ => rfl) fun cdv A outer s H E hr => ⟨_, (pss_cons (ps_expr (pe_c c_check_bids hr (by decide) (by rfl) (pa_cons (pv 1) (pa_cons (pe_propX p_seats hr (by decide) (pv 0)) pa_nil)))) (pss_cons (ps_set (i := 2) sc_Rule_outcome.nd rfl (Or.inr rfl) (pe_mt m_worths hr (by decide) (pv 0) (pa_cons (pv 1) pa_nil))) (pss_cons (ps_setLc (i := 3) (own := [("condition", 4), ("done", 5)]) (g := gTup K 2 (gCons (gName 4) (gCons (gName 5) gNil))) (by rfl) sc_Rule_outcome.nd rfl rfl (sw_true rfl rfl rfl (by decide +kernel)) (pi_anyK (K := K) (pe_fld (pv 0) rfl)) (blkOk_by (own := [("condition", 4), ("done", 5)]) (N := N_Rule_outcome) (sc := defScope s_Rule_outcome) (by decide +kernel)) (fun _ _ _ _ _ => (pg_tup rfl (pgs_cons (pg_name (i := 4) sc_Rule_outcome.nd rfl (Or.inl rfl)) (pgs_cons (pg_name (i := 5) sc_Rule_outcome.nd rfl (Or.inl rfl)) pgs_nil)))) (fun _ _ _ _ _ => (pts_one (pt_val (pe_c c_holds hr (by decide) (by rfl) (pa_cons (pv 4) (pa_cons (pv 2) pa_nil)))))) (fun _ _ _ _ _ => (pv 5))) (pss_one (ps_ret (pe_c c_sale hr (by decide) (by rfl) (pa_cons (pe_ix (ix_anyK (K := K)) (pv 3) pe_int (fun _ _ => rfl)) (pa_cons (pe_propX p_seats hr (by decide) (pv 0)) (pa_cons (pv 1) (pa_cons (pv 2) pa_nil)))))))))), fun a ha => ?_⟩
  obtain ⟨seats, rows, bids⟩ := a
  have h1 : SeatsOk seats := ha.seats
  have h2 : RowsOk seats seats rows := ha.rows
  have hl : bids.length = seats.length := ha.len
  have hnn : ∀ b ∈ bids, 0 ≤ b := ha.nn
  have hnm : ∀ r ∈ rows, ∀ w p, r.d = .sell w p → ∃ x, w = .seat x := ha.named
  have hst : ∀ {G : List Sl} {te : TE}, Eg K [] G te (· = .obj C (ruleF seats rows)) → Eg K [] G (tProp C (sp_seats K C) [] E0 te) (· = .tup (strsD seats)) := fun h => eg_propX (⟨seats, rows⟩ : RuIn) h rfl trivial fun _ e => e
  refine q_drop (ed_callX (out := fun _ : BidsIn => Dt.non) ⟨bids, seats⟩ (ea_2 (eg_var rfl) (hst (eg_var rfl))) ⟨hl, h1.n4, hnn⟩) ?_
  refine q_set (d := .dic (wsD (seats.zip bids))) (eg_methX (px := (· = [.tup (intsD bids)])) (eg_var rfl) rfl (ea_1 (eg_var rfl)) fun es e => ⟨(⟨seats, rows, bids⟩ : WoIn), by rw [e], ⟨h1, hl⟩, fun _ e => e⟩) ?_
  obtain ⟨r0, hr0, er0, at0'⟩ := first_at (seats.zip bids) (last_none h2)
  have ln6 := h2.n6
  refine q_set (d := .lst (((stD rows).filter (rowB (seats.zip bids))).map rowF)) (ed_lcIf2 rfl rfl (by decide) (wk_any1 (d := .tup (stD rows)) (eg_fld (eg_var rfl) R.cls R.n_steps rfl) rfl) (by unfold stD; rw [List.length_map]; omega) fun d hd => ?_) ?_
  · obtain ⟨r, hr, rfl⟩ := List.mem_map.mp hd
    refine ⟨oc r.c, r.d.d, row_dt r, et_eq (et_B1 (ed_callX (out := fun a : HoIn => Dt.bl (oev a.ws a.c)) ⟨r.c, seats.zip bids⟩ (ea_2 (eg_var rfl) (eg_var rfl)) fun c hc => ?_)) ?_, fun _ => eg_eq (eg_var rfl) ?_⟩
    · have hc' : c.ok seats := (h2.ok r hr).2 c hc
      exact ⟨pt_has hl hc'.1, pt_has hl hc'.2⟩
    · rw [row_dt]
      exact (cev_d _ _).symm
    · rw [row_dt]
      rfl
  · refine run_ret (eg_eq (ed_callX (out := fun a : SaIn => a.d.res a.ws) ⟨r0.d, seats, bids, seats.zip bids⟩ (ea_4 (ed_ixL (eg_var rfl) eg_int (by rw [reached_eq]; exact at0')) (hst (eg_var rfl)) (eg_var rfl) (eg_var rfl)) fun ww p e => ⟨hnm r0 hr0 ww p e, ?_⟩) ?_)
    · have hd := (h2.ok r0 hr0).1
      have e' : r0.d = .sell ww p := e
      rw [e'] at hd
      exact pt_has hl hd.2
    · rw [er0]
end
end Sb

set_option Elab.async false
set_option linter.all false
set_option maxRecDepth 100000
set_option autoImplicit false
namespace Sb
open PySem PySem.Spec PyProof.Rows L2 TL
variable {K : KX} {S : List Addr} {G : List Sl}
/-! ### slots let go -/
section
variable {B : Hp} {O : Ow} {H : Hp} {σ : L2.St}
theorem ads_set {i : Nat} {s s' : Sl} (hi : G[i]? = some s) (hs : s.ad = none) (hs' : s'.ad = none) : ads (G.set i s') = ads G := by
  obtain ⟨e1, e2⟩ := split_at (s' := s') hi
  rw [e2]
  conv => rhs; rw [e1]
  unfold ads
  rw [List.filterMap_append, List.filterMap_append, List.filterMap_cons, List.filterMap_cons, hs, hs']
theorem srs_set {i : Nat} {s s' : Sl} (hi : G[i]? = some s) (hs : s.sd = none) (hs' : s'.sd = none) : srs (G.set i s') = srs G := by
  obtain ⟨e1, e2⟩ := split_at (s' := s') hi
  rw [e2]
  conv => rhs; rw [e1]
  unfold srs
  rw [List.filterMap_append, List.filterMap_append, List.filterMap_cons, List.filterMap_cons, hs, hs']
theorem sd_of {s : Sl} (h : s.ad = none) : s.sd = none := by cases s <;> first | rfl | cases h
theorem Hold.forget (h : Hold K B S O G H σ) {i : Nat} {s : Sl} (hi : G[i]? = some s) (hs : s.ad = none) : Hold K B S O (G.set i .un) H σ := by
  have ep : pof O (G.set i .un) = pof O G := by unfold pof; rw [ads_set hi hs rfl]
  refine ⟨by rw [List.length_set]; exact h.len, fun j t e => ?_, by rw [ep]; exact h.nd, by rw [srs_set hi (sd_of hs) rfl]; exact h.ss, by rw [ep]; exact h.ex, h.oo, h.on, h.tb⟩
  rw [ep]
  by_cases hj : j = i
  · subst hj
    rw [List.getElem?_set_self (List.getElem?_eq_some_iff.mp hi).1] at e
    cases e
    obtain ⟨o, h1, _⟩ := h.sl j _ hi
    exact ⟨o, h1, trivial⟩
  · rw [List.getElem?_set_ne (Ne.symm hj)] at e
    exact h.sl j t e
theorem Hold.release (h : Hold K B S O G H σ) {i : Nat} {p : Addr} {ds : List Dt} (hi : G[i]? = some (.ow p ds)) : Hold K B S O (G.set i (.da (.lst ds))) H σ := by
  obtain ⟨e1, e2⟩ := split_at (s' := .da (.lst ds)) hi
  have eA : ads G = ads (G.take i) ++ p :: ads (G.drop (i + 1)) := by
    conv => lhs; rw [e1]
    unfold ads
    rw [List.filterMap_append, List.filterMap_cons]
    rfl
  have eB : ads (G.set i (.da (.lst ds))) = ads (G.take i) ++ ads (G.drop (i + 1)) := by
    rw [e2]
    unfold ads
    rw [List.filterMap_append, List.filterMap_cons]
    rfl
  have sub : ∀ a, a ∈ pof O (G.set i (.da (.lst ds))) → a ∈ pof O G := fun a ha => by
    unfold pof at ha ⊢
    rw [eB] at ha
    rw [eA]
    simp only [List.mem_append, List.mem_cons] at ha ⊢
    rcases ha with z | z | z <;> simp [z]
  have nd : (p :: pof O (G.set i (.da (.lst ds)))).Nodup := by
    have n0 := h.nd
    unfold pof at n0 ⊢
    rw [eA, ← List.append_assoc] at n0
    rw [eB, ← List.append_assoc]
    exact (List.perm_middle (l₁ := op O ++ ads (G.take i)) (l₂ := ads (G.drop (i + 1))) (a := p)).nodup_iff.mp n0
  have np : p ∉ pof O (G.set i (.da (.lst ds))) := (List.nodup_cons.mp nd).1
  have gr : ExN (hid H (pof O G)) (hid H (pof O (G.set i (.da (.lst ds))))) := hid_sub sub
  refine ⟨by rw [List.length_set]; exact h.len, fun j t e => ?_, (List.nodup_cons.mp nd).2, by rw [srs_set hi rfl rfl]; exact h.ss, fun a o e nt n => gr a o (h.ex a o e nt n) nt, h.oo, h.on, h.tb⟩
  by_cases hj : j = i
  · subst hj
    rw [List.getElem?_set_self (List.getElem?_eq_some_iff.mp hi).1] at e
    cases e
    obtain ⟨o, h1, rfl, xs, h3, h4⟩ := h.sl j _ hi
    exact ⟨_, h1, .ref p, rfl, p, xs, rfl, by rw [hid_out np]; exact h3, DnA.mono gr ds h4⟩
  · rw [List.getElem?_set_ne (Ne.symm hj)] at e
    obtain ⟨o, h1, h2⟩ := h.sl j t e
    refine ⟨o, h1, ?_⟩
    cases t with
    | un => trivial
    | rf q => exact h2
    | da d =>
      obtain ⟨v, x1, x2⟩ := h2
      exact ⟨v, x1, Dn.mono gr d x2⟩
    | ow q ds =>
      obtain ⟨x1, xs, x2, x3⟩ := h2
      exact ⟨x1, xs, x2, DnA.mono gr ds x3⟩
    | od q ds =>
      obtain ⟨x1, xs, x2, x3⟩ := h2
      exact ⟨x1, xs, x2, DnK.mono gr ds x3⟩
    | oi q ds => exact h2
    | sr q => exact h2
end
section
variable {ts : TS} {N Bk : List Sl → Prop} {R : Dt → Prop}
theorem run_forget (i : Nat) {s : Sl} (h : Run K S ts (G.set i .un) N R Bk) (hi : G[i]? = some s := by rfl) (hs : s.ad = none := by rfl) : Run K S ts G N R Bk := fun B O D σ H hh a b c => h B O D σ H (hh.forget hi hs) a b c
theorem run_release (i : Nat) {p : Addr} {ds : List Dt} (h : Run K S ts (G.set i (.da (.lst ds))) N R Bk) (hi : G[i]? = some (.ow p ds) := by rfl) : Run K S ts G N R Bk := fun B O D σ H hh a b c => h B O D σ H (hh.release hi) a b c
/-! ### two, three at once -/
theorem run_par {ta tb : TE} {i j : Nat} {s t : Sl} {p q : Dt → Prop} (ha : Eg K S G ta p) (hb : Eg K S G tb q) (hi : G[i]? = some s) (hs : s.ad = none) (hj : G[j]? = some t) (ht : t.ad = none) (hij : i ≠ j)
    (hn : ∀ d e, p d → q e → N ((G.set i (.da d)).set j (.da e))) : Run K S (tPar i j (tCons ta (tCons tb tNil))) G N R Bk := fun B O D σ H hh a b c =>
  ha B O σ H hh _ fun v H1 d hd h1 g1 d1 => hb B O σ H1 h1 _ fun w H2 e he h2 g2 d2 => by
    have h3 := h2.set (d := d) (v := v) hi hs (Dn.mono g2 d d1)
    have ep : pof O (G.set i (.da d)) = pof O G := pof_set hi hs
    have hj2 : (G.set i (.da d))[j]? = some t := by rw [List.getElem?_set_ne hij]; exact hj
    exact ⟨v, w, rfl, a _ _ _ (hn d e hd he) (h3.set hj2 ht (by rw [ep]; exact d2))⟩
theorem run_parO {ta : TE} {i j : Nat} {s t : Sl} {p : Dt → Prop} (ha : Eg K S G ta p) (hi : G[i]? = some s) (hs : s.ad = none) (hj : G[j]? = some t) (ht : t.ad = none) (hij : i ≠ j)
    (hn : ∀ d r, p d → N ((G.set i (.da d)).set j (.ow r []))) : Run K S (tPar i j (tCons ta (tCons (tLst tNil) tNil))) G N R Bk := fun B O D σ H hh a b c =>
  ha B O σ H hh _ fun v H1 d hd h1 g1 d1 => ⟨Nat.zero_le _, fun r hr => by
    have h3 := h1.set (d := d) (v := v) hi hs d1
    have hj2 : (G.set i (.da d))[j]? = some t := by rw [List.getElem?_set_ne hij]; exact hj
    exact ⟨v, .ref r, rfl, a _ _ _ (hn d r hd) (h3.own hj2 ht hr)⟩⟩
theorem run_par3O {ta : TE} {i j l : Nat} {s t u : Sl} {p : Dt → Prop} (ha : Eg K S G ta p) (hi : G[i]? = some s) (hs : s.ad = none) (hj : G[j]? = some t) (ht : t.ad = none) (hl : G[l]? = some u) (hu : u.ad = none) (hij : i ≠ j) (hil : i ≠ l) (hjl : j ≠ l)
    (hn : ∀ d r r', p d → N (((G.set i (.da d)).set j (.ow r [])).set l (.ow r' []))) : Run K S (tPar3 i j l (tCons ta (tCons (tLst tNil) (tCons (tLst tNil) tNil)))) G N R Bk := fun B O D σ H hh a b c =>
  ha B O σ H hh _ fun v H1 d hd h1 g1 d1 => ⟨Nat.zero_le _, fun r hr => ⟨Nat.zero_le _, fun r' hr' => by
    have h3 := h1.set (d := d) (v := v) hi hs d1
    have hj2 : (G.set i (.da d))[j]? = some t := by rw [List.getElem?_set_ne hij]; exact hj
    have hl2 : ((G.set i (.da d)).set j (.ow r []))[l]? = some u := by rw [List.getElem?_set_ne hjl, List.getElem?_set_ne hil]; exact hl
    exact ⟨v, .ref r, .ref r', rfl, a _ _ _ (hn d r r' hd) ((h3.own hj2 ht hr).own hl2 hu hr')⟩⟩⟩
/-! ### the source of draws -/
theorem srcS {B : Hp} {O : Ow} {H : Hp} {σ : L2.St} (hh : Hold K B S O G H σ) {i : Nat} {p : Addr} (hi : G[i]? = some (.sr p)) : p ∈ S := by rw [← hh.ss]; exact List.mem_filterMap.mpr ⟨_, List.mem_of_getElem? hi, rfl⟩
def isI (d : Dt) : Prop := ∃ k, d = .int k
theorem eg_src {i : Nat} {p : Addr} {j : Int} (hi : G[i]? = some (.sr p)) (hj : j = 0 ∨ j = 1 ∨ j = 2) : Eg K S G (tOp (rIxA K) (tVar i) (tC (.int j))) isI := fun B O σ H hh Q k => by
  obtain ⟨o, e1, rfl, x, y, z, e2⟩ := hh.sl i _ hi
  refine ⟨_, e1, .inl ?_⟩
  rcases hj with rfl | rfl | rfl
  · exact ⟨p, _, 0, .int x, rfl, rfl, SqL.of e2, rfl, k _ _ (.int x) ⟨x, rfl⟩ hh (Gr.refl _ _) rfl⟩
  · exact ⟨p, _, 1, .int y, rfl, rfl, SqL.of e2, rfl, k _ _ (.int y) ⟨y, rfl⟩ hh (Gr.refl _ _) rfl⟩
  · exact ⟨p, _, 2, .int z, rfl, rfl, SqL.of e2, rfl, k _ _ (.int z) ⟨z, rfl⟩ hh (Gr.refl _ _) rfl⟩
theorem src_put {H : Hp} {p : Addr} {x y z k j : Int} (hj : j = 0 ∨ j = 1 ∨ j = 2) : ∃ n, ixN ([V.int x, .int y, .int z] : List V).length j = some n ∧ SrcAt (upd H p (.lst (([V.int x, .int y, .int z] : List V).set n (.int k)))) p := by
  rcases hj with rfl | rfl | rfl
  · exact ⟨0, rfl, k, y, z, upd_same⟩
  · exact ⟨1, rfl, x, k, z, upd_same⟩
  · exact ⟨2, rfl, x, y, k, upd_same⟩
theorem run_srcSet {te : TE} {i : Nat} {p : Addr} {j : Int} (hi : G[i]? = some (.sr p)) (hj : j = 0 ∨ j = 1 ∨ j = 2) (he : Eg K S G te isI) (hn : N G) : Run K S (tAsg te (gSub (tVar i) (tC (.int j)) rSetL)) G N R Bk := fun B O D σ H hh a b c =>
  he B O σ H hh _ fun v H1 d hd h1 g1 d1 => by
    obtain ⟨k, rfl⟩ := hd
    cases (show v = _ from d1)
    obtain ⟨o, e1, rfl, x, y, z, e2⟩ := h1.sl i _ hi
    obtain ⟨n, e3, e4⟩ := src_put (H := H1) (p := p) (x := x) (y := y) (z := z) (k := k) hj
    exact ⟨_, e1, p, _, j, n, rfl, rfl, e2, e3, a _ _ _ hn (h1.sub p (srcS h1 hi) (fun b o nb e => by rw [upd_ne nb]; exact e) e4)⟩
theorem run_srcDm {te : TE} {i l : Nat} {p : Addr} {s : Sl} {q : Int → Prop} (hi : G[i]? = some (.sr p)) (hl : G[l]? = some s) (hs : s.ad = none) (he : Eg K S G te (fun d => ∃ m r, d = .tup [.int m, .int r] ∧ q r)) (hn : ∀ r, q r → N (G.set l (.da (.int r)))) :
    Run K S (tAsg te (gTup K 2 (gCons (gSub (tVar i) (tC (.int 0)) rSetL) (gCons (gName l) gNil)))) G N R Bk := fun B O D σ H hh a b c =>
  he B O σ H hh _ fun v H1 d hd h1 g1 d1 => by
    obtain ⟨m, r, rfl, hq⟩ := hd
    obtain ⟨t, xs, rfl, t1, v1, r1, rfl, d1, v2, r2, rfl, d2, e3⟩ := d1
    cases (show r2 = [] from e3)
    cases (show v1 = _ from d1)
    cases (show v2 = _ from d2)
    obtain ⟨o, e1, rfl, x, y, z, e2⟩ := h1.sl i _ hi
    obtain ⟨n, e3, e4⟩ := src_put (H := H1) (p := p) (x := x) (y := y) (z := z) (k := m) (j := 0) (.inl rfl)
    have h2 := h1.sub p (srcS h1 hi) (fun b o nb e => by rw [upd_ne nb]; exact e) e4
    exact ⟨t, _, rfl, (hid_ex _).sqT t1, rfl, .int m, [.int r], rfl, _, e1, p, _, 0, n, rfl, rfl, e2, e3, .int r, [], rfl, rfl, a _ _ _ (hn r hq) (h2.set hl hs rfl)⟩
theorem rc_dm {i j : Int} {pz : Dt → Prop} (hc : CDiv i j) (h : pz (.tup [.int (i / j), .int (i % j)])) : Rcv K (fun xs H Q => ∃ i j, xs = [.int i, .int j] ∧ CDiv i j ∧ ∀ p, H p = none → Q (.ref p) (upd H p (.tup [.int (i / j), .int (i % j)]))) [.int i, .int j] pz := fun P H vs Q t dn k => by
  obtain ⟨v, r, rfl, d1, v2, r2, rfl, d2, e3⟩ := dn
  cases (show r2 = [] from e3)
  cases (show v = _ from d1)
  cases (show v2 = _ from d2)
  exact ⟨i, j, rfl, hc, fun p hp => k _ _ _ h (new_ex hp) (new_tup t hp ⟨_, _, rfl, rfl, _, _, rfl, rfl, rfl⟩)⟩
end
/-! ### ints -/
section
variable {ta tb : TE}
theorem ea_1p {px : Dt → Prop} (ha : Eg K S G ta px) : Ea K S G (tCons ta tNil) (fun ds => ∃ x, px x ∧ ds = [x]) := ea_cons ha ea_nil fun x _ e1 e2 => ⟨x, e1, by rw [e2]⟩
theorem ea_2p {px py : Dt → Prop} (ha : Eg K S G ta px) (hb : Eg K S G tb py) : Ea K S G (tCons ta (tCons tb tNil)) (fun ds => ∃ x y, px x ∧ py y ∧ ds = [x, y]) := ea_cons ha (ea_1p hb) fun x _ e1 ⟨y, e2, e3⟩ => ⟨x, y, e1, e2, by rw [e3]⟩
theorem ei_int {p : Int → Prop} (ha : Eg K S G ta (fun d => ∃ k, d = .int k ∧ p k)) : Eg K S G (tCB rIntA (tCons ta tNil)) (fun d => ∃ k, d = .int k ∧ p k) := eg_cb (ea_1p ha) fun ds ⟨x, ⟨k, hk, hp⟩, e⟩ => by
  subst e
  subst hk
  exact rc_intI ⟨k, rfl, hp⟩
theorem ei_of (h : Eg K S G ta isI) : Eg K S G ta (fun d => ∃ k, d = .int k ∧ True) := eg_imp h fun d ⟨k, e⟩ => ⟨k, e, trivial⟩
theorem ei_to {p : Int → Prop} (h : Eg K S G ta (fun d => ∃ k, d = .int k ∧ p k)) : Eg K S G ta isI := eg_imp h fun d ⟨k, e, _⟩ => ⟨k, e⟩
theorem ei_eq {k : Int} (h : Eg K S G ta (· = .int k)) : Eg K S G ta (fun d => ∃ j, d = .int j ∧ j = k) := eg_imp h fun d e => ⟨k, e, rfl⟩
theorem ei_opI {g : Int → Int → Int} {p q r : Int → Prop} (ha : Eg K S G ta (fun d => ∃ k, d = .int k ∧ p k)) (hb : Eg K S G tb (fun d => ∃ k, d = .int k ∧ q k)) {C : Int → Int → Prop} (hc : ∀ i j, p i → q j → C i j) (hr : ∀ i j, p i → q j → r (g i j)) :
    Eg K S G (tOp (rI C fun i j => .int (g i j)) ta tb) (fun d => ∃ k, d = .int k ∧ r k) := eg_op ha hb fun x y ⟨i, ei, hi⟩ ⟨j, ej, hj⟩ => by
  subst ei ej
  exact fun P H v w Q t d1 d2 k => ⟨i, j, d1, d2, hc i j hi hj, rv_out k ⟨_, rfl, hr i j hi hj⟩ rfl⟩
theorem ei_add {p q r : Int → Prop} (ha : Eg K S G ta (fun d => ∃ k, d = .int k ∧ p k)) (hb : Eg K S G tb (fun d => ∃ k, d = .int k ∧ q k)) (hr : ∀ i j, p i → q j → r (i + j)) : Eg K S G (tOp (rAddA K) ta tb) (fun d => ∃ k, d = .int k ∧ r k) := eg_op ha hb fun x y ⟨i, ei, hi⟩ ⟨j, ej, hj⟩ => by
  subst ei ej
  exact r2_addI ⟨_, rfl, hr i j hi hj⟩
theorem ed_mod {i j : Int} (ha : Eg K S G ta (· = .int i)) (hb : Eg K S G tb (· = .int j)) (hj : 0 < j) : Eg K S G (tOp (rI (fun _ j => 0 < j) fun i j => .int (i % j)) ta tb) (· = .int (i % j)) := ed_op ha hb fun P H v w Q t d1 d2 k => ⟨i, j, d1, d2, hj, rv_out k rfl rfl⟩
theorem ed_mul {i j : Int} (ha : Eg K S G ta (· = .int i)) (hb : Eg K S G tb (· = .int j)) (hc : CMul i j) : Eg K S G (tOp (rI CMul fun i j => .int (i * j)) ta tb) (· = .int (i * j)) := ed_op ha hb fun P H v w Q t d1 d2 k => ⟨i, j, d1, d2, hc, rv_out k rfl rfl⟩
theorem ed_pow {i j : Int} (ha : Eg K S G ta (· = .int i)) (hb : Eg K S G tb (· = .int j)) (hc : CPow i j) : Eg K S G (tOp (rI CPow fun i j => .int (i ^ j.toNat)) ta tb) (· = .int (i ^ j.toNat)) := ed_op ha hb fun P H v w Q t d1 d2 k => ⟨i, j, d1, d2, hc, rv_out k rfl rfl⟩
theorem et_gt {p q : Int → Prop} {r : Bool → Prop} (ha : Eg K S G ta (fun d => ∃ k, d = .int k ∧ p k)) (hb : Eg K S G tb (fun d => ∃ k, d = .int k ∧ q k)) (hr : ∀ i j, p i → q j → r (decide (i > j))) : Et K S G (tTest (tOp (rI0 fun i j => .bl (decide (i > j))) ta tb)) r := et_tst (eg_op ha hb fun x y ⟨i, ei, hi⟩ ⟨j, ej, hj⟩ => by
  subst ei ej
  exact fun P H v w Q t d1 d2 k => ⟨i, j, d1, d2, rv_out k ⟨_, rfl, hr i j hi hj⟩ rfl⟩)
end
end Sb

set_option Elab.async false
set_option linter.all false
set_option maxRecDepth 100000
set_option autoImplicit false
namespace Sb
open PySem PySem.Spec PyProof.Rows L2 TL
/-! ### t[::2], t of three -/
section
variable {prog : Program} {w : World} {A : Around} {E : Value → Shared → Prop} {s : Shared}
theorem applied2 {sl : Addr} {vl vu vs : Value} {Q : Int × Int × Nat → Shared → Prop} (hs : s.heap.IsSliceOf sl vl vu vs) (pl : IsPart vl none) (pu : IsPart vu none) (ps : IsPart vs (some 2)) (h : Q (0, 2, 2) s) :
    wpAny (model prog w) A (Builtin.Slice.sliceApplied (.ref sl) (pure 3)) Q E s := by
  obtain ⟨os, hos, hcs, hds⟩ := id hs
  unfold Builtin.Slice.sliceApplied Builtin.Slice.sliceFields
  refine wpAny_bind (wpAny_bind (wpAny_field hos hds (x := vl) rfl (wpAny_bind (wpAny_field hos hds (x := vu) rfl (wpAny_bind (wpAny_field hos hds (x := vs) rfl (wpAny_pure ?_)))))))
  refine wpAny_bind (HT.slicePart_ ps ?_)
  show wpAny _ _ (if ((2 : Int) == 0) = true then _ else _) _ _ s
  rw [if_neg (by decide)]
  refine wpAny_bind (HT.slicePart_ pl (wpAny_bind (HT.slicePart_ pu (wpAny_bind (wpAny_pure ?_)))))
  have e : Builtin.Slice.sliceAdjust none none 2 (3 : Int) = ((0 : Int), (3 : Int)) := by decide
  have e2 : Builtin.Slice.slicePlaces 0 3 2 = 2 := by decide
  show wpAny _ _ (match Builtin.Slice.sliceAdjust none none 2 (3 : Int) with | (lo, hi) => pure (lo, (2 : Int), Builtin.Slice.slicePlaces lo hi 2)) _ _ s
  rw [e]
  show wpAny _ _ (pure ((0 : Int), (2 : Int), Builtin.Slice.slicePlaces 0 3 2)) _ _ s
  rw [e2]
  exact wpAny_pure h
theorem getItem_step2 {t sl : Addr} {x y z : Value} {vl vu vs : Value} {Q : Value → Shared → Prop} (ht : IsTup s.heap t #[x, y, z]) (hs : s.heap.IsSliceOf sl vl vu vs) (pl : IsPart vl none) (pu : IsPart vu none) (ps : IsPart vs (some 2))
    (h : Q (.ref s.heap.objs.size) { s with heap := s.heap.push { cls := .type "tuple", data := .seq #[x, z] } }) : wpAny (model prog w) A (getItem (.ref t) (.ref sl)) Q E s := by
  obtain ⟨os, hos, hcs, hds⟩ := id hs
  have hTs : s.TypeIs (.ref sl) "slice" := ⟨os, hos, hcs⟩
  unfold getItem
  try with_reducible refine wpAny_holding ?_
  first | refine wpAny_bind (wpAny_pure ?_) | skip
  refine wpAny_bind (wpAny_sequenceKey ht.typeIs (by decide) ?_)
  refine wpAny_bind (wpAny_callSpecial?_slot (name := Str.ofString "__getitem__") ht.typeIs PyProof.Rows.slot_tuple_getitem
    (wpAny_call_entry PyProof.Rows.slot_tuple_getitem ht.typeIs PyProof.Rows.entry_tuple_getitem ?_ (PyProof.Rows.args_tuple_getitem _ _)))
  show wpAny _ _ (Builtin.Tuple.tupleItemsOf (.ref t) >>= _) _ _ s
  refine wpAny_bind (PyProof.Rows.tupleItemsOf_ ht ?_)
  refine wpAny_bind (wpAny_typeOf hTs ?_)
  rw [if_pos (by decide)]
  refine wpAny_bind (applied2 hs pl pu ps ?_)
  have hno : ¬ (((0 : Int) == 0 && (2 : Int) == 1 && (2 : Nat) == 3) = true) := by decide
  show wpAny _ _ (if ((0 : Int) == 0 && (2 : Int) == 1 && (2 : Nat) == 3) = true then _ else _) _ _ s
  rw [if_neg hno]
  have hp : ((List.range 2).filterMap fun (k : Nat) => (#[x, y, z] : Array Value)[((0 : Int) + (k : Int) * 2).toNat]?).toArray = #[x, z] := by
    have : List.range 2 = [0, 1] := by decide
    rw [this]
    rfl
  rw [hp]
  have hsz : sizeOk (.seq (#[x, z] : Array Value)) := by show 2 ≤ sizeLine; decide
  first
    | exact wpAny_bind (m := Builtin.Tuple.tupleExact _) (wpAny_newObj_type (wpAny_pure ⟨_, rfl, wpAny_pure h⟩) hsz)
    | exact wpAny_bind (m := Builtin.Tuple.tupleExact _) (wpAny_newObj_type (wpAny_bind (wpAny_pure (wpAny_pure ⟨_, rfl, wpAny_pure h⟩))) hsz)
    | exact wpAny_bind (wpAny_bind (m := Builtin.Tuple.tupleExact _) (wpAny_newObj_type (wpAny_pure (wpAny_pure ⟨_, rfl, wpAny_pure h⟩)) hsz))
    | exact wpAny_bind (wpAny_bind (m := Builtin.Tuple.tupleExact _) (wpAny_newObj_type (wpAny_pure ⟨_, rfl, wpAny_pure h⟩) hsz))
end
def tStep2 (K : PySem.W.Frag) (te : TE) : TE := fun σ H Q => te σ H fun x H1 => ∃ a u v w, x = .ref a ∧ SqT K H1 a [u, v, w] ∧ ∀ p, H1 p = none → Q (.ref p) (upd H1 p (.tup [u, w]))
theorem pe_step2' {X : Cx} {e : Expr} {te : TE} {k : Nat} {p1 p3 pos : Pos} (he : PE X e te) : PE X (.Subscript e (.Slice none none (some (.Constant (.int 2) k p1)) p3) pos) (tStep2 X.K te) := by
  refine ⟨fun pins s σ H Q I h => ?_⟩
  refine Subscript_ (thn (he.run pins s σ H _ I h) fun v s1 ⟨x, H1, I1, r1, q1⟩ => ?_)
  obtain ⟨a, u1, u2, u3, ex, hx, q⟩ := q1
  subst ex
  cases r1
  have hst : PO X (some (.Constant (.int 2) k p1)) (tPart (tC (.int 2))) := po_some pe_int
  refine wpAny_Slice (thn (po_none.run pins s1 σ H1 (fun o H2 => o = none ∧ H2 = H1) I1 ⟨rfl, rfl⟩) fun vl s2 ⟨l, H2, I2, pl, el, e2⟩ => ?_)
  subst el e2
  refine thn (po_none.run pins s2 σ H2 (fun o H3 => o = none ∧ H3 = H2) I2 ⟨rfl, rfl⟩) fun vu s3 ⟨u, H3, I3, pu, eu, e3⟩ => ?_
  subst eu e3
  refine thn (hst.run pins s3 σ H3 (fun o H4 => o = some 2 ∧ H4 = H3) I3 ⟨2, rfl, rfl, rfl⟩) fun vs s4 ⟨o, H4, I4, ps, eo, e4⟩ => ?_
  subst eo e4
  have I5 : Inv X pins σ H4 { s4 with heap := s4.heap.push { cls := .type "slice", data := .fields #[vl, vu, vs] } } := I4.kept (t' := s4.toks) fun b ob q => Heap.get?_push_of_some _ q
  obtain ⟨its, r, ht, hz⟩ := I5.tuple hx
  obtain ⟨w1, w2, w3, rfl, r1', r2', r3'⟩ : ∃ w1 w2 w3, its = [w1, w2, w3] ∧ RelV u1 w1 ∧ RelV u2 w2 ∧ RelV u3 w3 := by
    cases r with
    | cons p q =>
      cases q with
      | cons p' q' =>
        cases q' with
        | cons p'' q'' =>
          cases q''
          exact ⟨_, _, _, rfl, p, p', p''⟩
  show wpAny (model X.prog X.w) X.A (subscriptTail e (.Slice none none (some (.Constant (.int 2) k p1)) p3) (.ref a) (.ref s4.heap.objs.size)) (EP X pins σ Q) X.xe { s4 with heap := s4.heap.push { cls := .type "slice", data := .fields #[vl, vu, vs] } }
  refine tail_any (ops := [.ref a, .ref s4.heap.objs.size]) ht.typeIs (PyProof.Rows.slot_tuple_getitem.lookup) ?_ (by with_unfolding_all rfl)
  refine getItem_step2 ht (Heap.IsSliceOf.new _ vl vu vs) pl pu ps ?_
  refine ⟨.ref _, _, I5.laid (t' := s4.toks) (o := .tup [u1, u3]) (fun b ob q => Heap.get?_push_of_some _ q) (Nat.le_refl _) ?_, rfl, q _ (I5.hok.fresh (Nat.le_refl _))⟩
  exact ⟨by show 2 ≤ sizeLine; decide, [w1, w3], .cons r1' (.cons r3' .nil), IsTup.new _ _⟩
theorem pe_step2 {X : Cx} {K : PySem.W.Frag} {e : Expr} {te : TE} {k : Nat} {p1 p3 pos : Pos} (he : PE X e te) (h : X.K = K := by rfl) : PE X (.Subscript e (.Slice none none (some (.Constant (.int 2) k p1)) p3) pos) (tStep2 K te) := h ▸ pe_step2' he
variable {K : KX} {S : List Addr} {G : List Sl}
theorem ed_step2 {te : TE} {x y z : Dt} (h : Eg K S G te (· = .tup [x, y, z])) : Eg K S G (tStep2 K te) (· = .tup [x, z]) := fun B O σ H hh Q k =>
  h B O σ H hh _ fun v H1 d hd h1 g1 d1 => by
    subst hd
    obtain ⟨a, xs, rfl, t1, v1, r1, rfl, d1, v2, r2, rfl, d2, v3, r3, rfl, d3, e4⟩ := d1
    cases (show r3 = [] from e4)
    exact ⟨a, v1, v2, v3, rfl, (hid_ex _).sqT t1, fun p hp => k _ _ _ rfl (h1.more (new_ex hp)) (g1.trans (hid_new hp)) (new_tup h1.trk hp ⟨_, _, rfl, d1, _, _, rfl, d3, rfl⟩)⟩
/-! ### xs.index(x) of texts -/
theorem pe_index {X : Cx} {K : PySem.W.Frag} {o e : Expr} {to : TE} {t : TA} {apos cpos : Pos} (ho : PE X o to) (ha : PA X [e] t) (h : X.K = K := by rfl) (hbase : attributeBase o "index" X.env (eval o X.env) = eval o X.env := by rfl)
    (hfew : ((backTo cpos (starEach [e] X.env)).all (fun x => !x.1) && (backToKw cpos (keywordEach [] X.env)).all (fun x => x.1.isSome) && decide ([e].length + ([] : List Keyword).length + (if ([] : List Keyword).isEmpty then 0 else 1) < 30)) = true := by rfl)
    (hline : (apos.endLine == cpos.line) = true := by rfl) (hs : starEach [e] X.env = (false, eval e X.env) :: starEach [] X.env := by rfl) : PE X (.Call (.Attribute o "index" apos) [e] [] cpos) (tBM K "list" (rIndex K) to t) := by
  subst h
  exact pe_bm PySem.F.plainAttrs_list PySem.F.slot_list_index PySem.F.type_list_index mt_index ho ha hbase hfew hline hs
theorem ed_index {to te : TE} {xs : List Str} {x : Str} {j : Nat} (ho : Eg K S G to (· = .lst (strsD xs))) (he : Eg K S G te (· = .str x)) (hj : xs[j]? = some x) (hn : ∀ m, m < j → xs[m]? ≠ some x) : Eg K S G (tBM K "list" (rIndex K) to (tCons te tNil)) (· = .int (j : Int)) := fun B O σ H hh Q k =>
  ho B O σ H hh _ fun v H1 d hd h1 g1 d1 => by
    subst hd
    obtain ⟨a, vs, rfl, e1, e2⟩ := id d1
    have ex : vs = xs.map V.str := dnA_v e2 (by unfold strsD; rw [List.map_map, List.map_map]; rfl)
    subst ex
    refine ⟨.inl ⟨rfl, _, SqL.of (hid_ex _ _ _ e1)⟩, he B O σ H1 h1 _ fun w H2 e hw h2 g2 d2 => ?_⟩
    subst hw
    cases (show w = _ from d2)
    have e1' : hid H2 (pof O G) a = some (.lst (xs.map V.str)) := g2 _ _ e1 nt_lst
    refine ⟨a, xs.map V.str, .str x, j, .str x, rfl, rfl, SqL.of (hid_ex _ _ _ e1'), rfl, by rw [List.all_map]; exact List.all_eq_true.mpr fun _ _ => rfl, by rw [List.getElem?_map, hj]; rfl, by unfold eqV; simp, fun m z hm hz => ?_, k _ _ _ rfl h2 (g1.trans g2) rfl⟩
    rw [List.getElem?_map] at hz
    cases q : xs[m]? with
    | none => rw [q] at hz; cases hz
    | some y =>
      rw [q] at hz
      cases hz
      have ny : y ≠ x := fun z => hn m hm (by rw [q, z])
      show eqV (V.str y) (V.str x) = false
      unfold eqV
      simpa using ny
/-! ### two, three at once, one of them kept in a cell: by a tuple -/
section
variable {N Bk : List Sl → Prop} {R : Dt → Prop}
theorem run_asgO {ta : TE} {i j : Nat} {s t : Sl} {p : Dt → Prop} (ha : Eg K S G ta p) (hi : G[i]? = some s) (hs : s.ad = none) (hj : G[j]? = some t) (ht : t.ad = none) (hij : i ≠ j)
    (hn : ∀ d r, p d → N ((G.set i (.da d)).set j (.ow r []))) : Run K S (tAsg (tTup (tCons ta (tCons (tLst tNil) tNil))) (gTup K 2 (gCons (gName i) (gCons (gName j) gNil)))) G N R Bk := fun B O D σ H hh a b c =>
  ha B O σ H hh _ fun v H1 d hd h1 g1 d1 => ⟨Nat.zero_le _, fun r hr => ⟨by show 2 ≤ sizeLine; decide, fun T hT => by
    have h3 := h1.set (d := d) (v := v) hi hs d1
    have hj2 : (G.set i (.da d))[j]? = some t := by rw [List.getElem?_set_ne hij]; exact hj
    exact ⟨T, _, rfl, SqT.of upd_same, rfl, v, _, rfl, .ref r, _, rfl, rfl, a _ _ _ (hn d r hd) ((h3.own hj2 ht hr).more (new_ex hT))⟩⟩⟩
theorem run_asg3O {ta : TE} {i j l : Nat} {s t u : Sl} {p : Dt → Prop} (ha : Eg K S G ta p) (hi : G[i]? = some s) (hs : s.ad = none) (hj : G[j]? = some t) (ht : t.ad = none) (hl : G[l]? = some u) (hu : u.ad = none) (hij : i ≠ j) (hil : i ≠ l) (hjl : j ≠ l)
    (hn : ∀ d r r', p d → N (((G.set i (.da d)).set j (.ow r [])).set l (.ow r' []))) : Run K S (tAsg (tTup (tCons ta (tCons (tLst tNil) (tCons (tLst tNil) tNil)))) (gTup K 3 (gCons (gName i) (gCons (gName j) (gCons (gName l) gNil))))) G N R Bk := fun B O D σ H hh a b c =>
  ha B O σ H hh _ fun v H1 d hd h1 g1 d1 => ⟨Nat.zero_le _, fun r hr => ⟨Nat.zero_le _, fun r' hr' => ⟨by show 3 ≤ sizeLine; decide, fun T hT => by
    have h3 := h1.set (d := d) (v := v) hi hs d1
    have hj2 : (G.set i (.da d))[j]? = some t := by rw [List.getElem?_set_ne hij]; exact hj
    have hl2 : ((G.set i (.da d)).set j (.ow r []))[l]? = some u := by rw [List.getElem?_set_ne hjl, List.getElem?_set_ne hil]; exact hl
    exact ⟨T, _, rfl, SqT.of upd_same, rfl, v, _, rfl, .ref r, _, rfl, .ref r', _, rfl, rfl, a _ _ _ (hn d r r' hd) (((h3.own hj2 ht hr).own hl2 hu hr').more (new_ex hT))⟩⟩⟩⟩
end
end Sb

set_option Elab.async false
set_option linter.all false
set_option maxRecDepth 100000
set_option autoImplicit false
namespace Sb
open PySem PySem.Spec PyProof.Rows L2 TL
variable {K : KX} {S : List Addr} {G : List Sl}
/-! ### sorted of ints -/
theorem cr_sortedK {X : Cx} {K : PySem.W.Frag} (h : X.K = K := by rfl) : CallR X (.builtin "sorted") (rSorted K) := h ▸ cr_sorted
theorem srt_unique : ∀ {l m : List Int}, l.Perm m → l.Pairwise (· ≤ ·) → m.Pairwise (· ≤ ·) → l = m
  | [], m, p, _, _ => (List.Perm.nil_eq p)
  | a :: l, [], p, _, _ => by cases p.symm.nil_eq
  | a :: l, b :: m, p, h1, h2 => by
    obtain ⟨a1, a2⟩ := List.pairwise_cons.mp h1
    obtain ⟨b1, b2⟩ := List.pairwise_cons.mp h2
    have ha : a ∈ b :: m := p.subset (by simp)
    have hb : b ∈ a :: l := p.symm.subset (by simp)
    have e : a = b := by
      rcases List.mem_cons.mp ha with q | q
      · exact q
      · rcases List.mem_cons.mp hb with r | r
        · exact r.symm
        · have := b1 a q
          have := a1 b r
          omega
    subst e
    rw [srt_unique (List.Perm.cons_inv p) a2 b2]
def srt (ns : List Int) : List Int := ns.mergeSort fun a b => decide (a ≤ b)
theorem srt_perm (ns : List Int) : (srt ns).Perm ns := List.mergeSort_perm ns _
theorem srt_len (ns : List Int) : (srt ns).length = ns.length := (srt_perm ns).length_eq
theorem srt_sorted (ns : List Int) : (srt ns).Pairwise (· ≤ ·) := by
  have h := List.pairwise_mergeSort (le := fun a b : Int => decide (a ≤ b)) (fun a b c h1 h2 => by
    have h1 := of_decide_eq_true h1
    have h2 := of_decide_eq_true h2
    exact decide_eq_true (by omega)) (fun a b => by
    by_cases q : a ≤ b
    · rw [decide_eq_true q]; rfl
    · rw [decide_eq_true (show b ≤ a by omega), Bool.or_true]) ns
  exact h.imp fun q => of_decide_eq_true q
theorem rc_sorted {ns : List Int} {pz : Dt → Prop} (hl : ns.length < 64) (h : pz (.lst ((srt ns).map Dt.int))) : Rcv K (rSorted K) [.lst (ns.map Dt.int)] pz := fun P H vs Q t dn k => by
  obtain ⟨v, r, rfl, ⟨a, xs, rfl, e1, e2⟩, e3⟩ := dn
  cases (show r = [] from e3)
  have ex : xs = ns.map V.int := dnA_v e2 (by rw [List.map_map, List.map_map]; rfl)
  subst ex
  refine ⟨a, ns, rfl, SqL.of (hid_ex _ _ _ e1), hl, fun ns' p hp hs hn => ?_⟩
  have e : ns' = srt ns := srt_unique (hp.trans (srt_perm ns).symm) hs (srt_sorted ns)
  subst e
  have dI : ∀ (H : Hp) (l : List Int), DnA K H (l.map Dt.int) (l.map V.int) := fun H l => by
    induction l with
    | nil => exact rfl
    | cons a l ih => exact ⟨_, _, rfl, rfl, ih⟩
  exact k _ _ _ h (new_ex hn) (new_lst t hn (dI _ _))
theorem ed_negI {te : TE} {i : Int} (h : Eg K S G te (· = .int i)) : Eg K S G (tUn (rU fun i => .int (-i)) te) (· = .int (-i)) := eg_un h fun x e => by
  subst e
  exact fun P H v Q t d1 k => ⟨i, d1, rv_out k rfl rfl⟩
theorem at_neg {al : Type} {xs : List al} {k : Nat} {x : al} (h1 : 1 ≤ k) (hk : k ≤ xs.length) (h : xs[xs.length - k]? = some x) : atI xs (-(k : Int)) = some x := by
  unfold atI ixN
  rw [if_neg (by omega), if_pos (by omega)]
  have e : (-(k : Int) + (xs.length : Int)).toNat = xs.length - k := by omega
  rw [e]
  exact h
end Sb

set_option Elab.async false
set_option linter.all false
set_option maxRecDepth 100000
set_option autoImplicit false
namespace Sb
open PySem PySem.Spec PyProof.Rows L2 TL
variable {K : KX} {S : List Addr} {G : List Sl}
/-! ### own dicts -/
section
variable {B : Hp} {O : Ow} {H : Hp} {σ : L2.St}
theorem Hold.ownK (h : Hold K B S O G H σ) {i : Nat} {s : Sl} {p : Addr} {ds : List (Str × Dt)} {kvs : List (Key × V)} (hi : G[i]? = some s) (hs : s.ad = none) (hp : H p = none) (hd : DnK K (hid H (pof O G)) ds kvs) :
    Hold K B S O (G.set i (.od p ds)) (upd H p (.dK kvs)) (σ.set i (some (.ref p))) := by
  have hlt : i < G.length := (List.getElem?_eq_some_iff.mp hi).1
  obtain ⟨e1, e2⟩ := split_at (s' := .od p ds) hi
  have hf : p ∉ pof O G := h.fresh hp
  have eA : ads G = ads (G.take i) ++ ads (G.drop (i + 1)) := by
    conv => lhs; rw [e1]
    unfold ads
    rw [List.filterMap_append, List.filterMap_cons, hs]
  have eB : ads (G.set i (.od p ds)) = ads (G.take i) ++ p :: ads (G.drop (i + 1)) := by
    rw [e2]
    unfold ads
    rw [List.filterMap_append, List.filterMap_cons]
    rfl
  have mem : ∀ a, a ∈ pof O (G.set i (.od p ds)) ↔ a = p ∨ a ∈ pof O G := fun a => by
    unfold pof
    rw [eA, eB]
    simp only [List.mem_append, List.mem_cons]
    constructor
    · rintro (z | z | z | z) <;> simp [z]
    · rintro (z | z | z | z) <;> simp [z]
  have gr : ExN (hid H (pof O G)) (hid (upd H p (.dK kvs)) (pof O (G.set i (.od p ds)))) := fun a o e _ => by
    obtain ⟨n, e'⟩ := hid_some e
    have np : a ≠ p := ne_of_none e' hp
    rw [hid_out (fun z => ((mem a).mp z).elim np n), upd_ne np]
    exact e'
  have up : ∀ a o, H a = some o → upd H p (.dK kvs) a = some o := fun a o e => by rw [upd_ne (ne_of_none e hp)]; exact e
  refine ⟨by rw [List.length_set, List.length_set]; exact h.len, fun j t e => ?_, ?_, ?_, fun a o e nt n => gr a o (h.ex a o e nt n) nt, fun q hq => up _ _ (h.oo q hq), h.on, h.tb.ext (new_ex hp)⟩
  · by_cases hj : j = i
    · subst hj
      rw [List.getElem?_set_self hlt] at e
      cases e
      exact ⟨some (.ref p), List.getElem?_set_self (by rw [h.len]; exact hlt), rfl, kvs, upd_same, DnK.mono gr ds hd⟩
    · rw [List.getElem?_set_ne (Ne.symm hj)] at e
      obtain ⟨o, h1, h2⟩ := h.sl j t e
      refine ⟨o, by rw [List.getElem?_set_ne (Ne.symm hj)]; exact h1, ?_⟩
      cases t with
      | un => trivial
      | rf q => exact h2
      | da d =>
        obtain ⟨v, x1, x2⟩ := h2
        exact ⟨v, x1, Dn.mono gr d x2⟩
      | ow q ds =>
        obtain ⟨x1, xs, x2, x3⟩ := h2
        exact ⟨x1, xs, up _ _ x2, DnA.mono gr ds x3⟩
      | od q ds =>
        obtain ⟨x1, xs, x2, x3⟩ := h2
        exact ⟨x1, xs, up _ _ x2, DnK.mono gr ds x3⟩
      | oi q ds => exact ⟨h2.1, up _ _ h2.2⟩
      | sr q =>
        obtain ⟨x1, x, y, z, x2⟩ := h2
        exact ⟨x1, x, y, z, up _ _ x2⟩
  · have n0 := h.nd
    unfold pof at n0 hf ⊢
    rw [eA] at n0 hf
    rw [eB]
    rw [← List.append_assoc] at n0 hf ⊢
    have q := (List.perm_middle (l₁ := op O ++ ads (G.take i)) (l₂ := ads (G.drop (i + 1))) (a := p))
    exact q.nodup_iff.mpr (List.nodup_cons.mpr ⟨hf, n0⟩)
  · rw [srs_set hi (sd_of hs) rfl]
    exact h.ss
theorem dnK_app {H : Hp} {x : Str} {d : Dt} {v : V} : ∀ {ds : List (Str × Dt)} {kvs : List (Key × V)}, DnK K H ds kvs → Dn K H d v → DnK K H (ds ++ [(x, d)]) (kvs ++ [(.inr x, v)])
  | [], _, h, g => by cases (show _ = [] from h); exact ⟨v, [], rfl, g, rfl⟩
  | (y, d0) :: ds, _, h, g => by
    obtain ⟨u, r, rfl, h1, h2⟩ := h
    exact ⟨u, _, rfl, h1, dnK_app h2 g⟩
theorem dnK_keys {H : Hp} : ∀ {ds : List (Str × Dt)} {kvs : List (Key × V)}, DnK K H ds kvs → kvs.map (·.1) = ds.map fun q => (Sum.inr q.1 : Key)
  | [], _, h => by cases (show _ = [] from h); rfl
  | (y, d0) :: ds, _, h => by
    obtain ⟨u, r, rfl, h1, h2⟩ := h
    rw [List.map_cons, List.map_cons, dnK_keys h2]
theorem Hold.dput (h : Hold K B S O G H σ) {i : Nat} {p : Addr} {ds : List (Str × Dt)} {x : Str} {d : Dt} {v : V} {kvs : List (Key × V)} (hi : G[i]? = some (.od p ds)) (hx : H p = some (.dK kvs)) (hd : Dn K (hid H (pof O G)) d v) :
    Hold K B S O (G.set i (.od p (ds ++ [(x, d)]))) (upd H p (.dK (kvs ++ [(.inr x, v)]))) σ := by
  have hlt : i < G.length := (List.getElem?_eq_some_iff.mp hi).1
  obtain ⟨e1, e2⟩ := split_at (s' := .od p (ds ++ [(x, d)])) hi
  have eB : ads (G.set i (.od p (ds ++ [(x, d)]))) = ads G := by
    rw [e2]
    conv => rhs; rw [e1]
    unfold ads
    rw [List.filterMap_append, List.filterMap_append, List.filterMap_cons, List.filterMap_cons]
    rfl
  have ep : pof O (G.set i (.od p (ds ++ [(x, d)]))) = pof O G := by unfold pof; rw [eB]
  have hpP : p ∈ pof O G := List.mem_append_right _ (mem_ads hi rfl)
  have hpO : ∀ q ∈ O, q.1 ≠ p := fun q hq z => (List.nodup_append.mp h.nd).2.2 q.1 (List.mem_map_of_mem hq) p (mem_ads hi rfl) z
  have gr : ExN (hid H (pof O G)) (hid (upd H p (.dK (kvs ++ [(.inr x, v)]))) (pof O G)) := hid_up hpP
  refine ⟨by rw [List.length_set]; exact h.len, fun j t e => ?_, by rw [ep]; exact h.nd, by rw [srs_set hi rfl rfl]; exact h.ss, by rw [ep]; exact fun a o e nt n => gr a o (h.ex a o e nt n) nt, fun q hq => by rw [upd_ne (hpO q hq)]; exact h.oo q hq, h.on, tabs_past h.tb (not_tbl hx nt_dK) (not_cod hx nc_dK) fun a o n e => by rw [upd_ne n]; exact e⟩
  rw [ep]
  by_cases hj : j = i
  · subst hj
    rw [List.getElem?_set_self hlt] at e
    cases e
    obtain ⟨o, h1, h2, ys, h3, h4⟩ := h.sl j _ hi
    rw [hx] at h3
    cases h3
    exact ⟨o, h1, h2, _, upd_same, dnK_app (DnK.mono gr ds h4) (Dn.mono gr d hd)⟩
  · rw [List.getElem?_set_ne (Ne.symm hj)] at e
    obtain ⟨o, h1, h2⟩ := h.sl j t e
    have ne : ∀ q, t.ad = some q → q ≠ p := fun q hq z => hj (nodup_ads h.ndA e hi (by rw [hq, z]) rfl)
    refine ⟨o, h1, ?_⟩
    cases t with
    | un => trivial
    | rf q => exact h2
    | da d =>
      obtain ⟨v, x1, x2⟩ := h2
      exact ⟨v, x1, Dn.mono gr d x2⟩
    | ow q ds =>
      obtain ⟨x1, xs, x2, x3⟩ := h2
      exact ⟨x1, xs, by rw [upd_ne (ne q rfl)]; exact x2, DnA.mono gr ds x3⟩
    | od q ds =>
      obtain ⟨x1, xs, x2, x3⟩ := h2
      exact ⟨x1, xs, by rw [upd_ne (ne q rfl)]; exact x2, DnK.mono gr ds x3⟩
    | oi q ds => exact ⟨h2.1, by rw [upd_ne (ne q rfl)]; exact h2.2⟩
    | sr q =>
      obtain ⟨x1, x, y, z, x2⟩ := h2
      exact ⟨x1, x, y, z, by rw [upd_ne (ne q rfl)]; exact x2⟩
theorem Hold.releaseD (h : Hold K B S O G H σ) {i : Nat} {p : Addr} {ds : List (Str × Dt)} (hi : G[i]? = some (.od p ds)) : Hold K B S O (G.set i (.da (.dic ds))) H σ := by
  obtain ⟨e1, e2⟩ := split_at (s' := .da (.dic ds)) hi
  have eA : ads G = ads (G.take i) ++ p :: ads (G.drop (i + 1)) := by
    conv => lhs; rw [e1]
    unfold ads
    rw [List.filterMap_append, List.filterMap_cons]
    rfl
  have eB : ads (G.set i (.da (.dic ds))) = ads (G.take i) ++ ads (G.drop (i + 1)) := by
    rw [e2]
    unfold ads
    rw [List.filterMap_append, List.filterMap_cons]
    rfl
  have sub : ∀ a, a ∈ pof O (G.set i (.da (.dic ds))) → a ∈ pof O G := fun a ha => by
    unfold pof at ha ⊢
    rw [eB] at ha
    rw [eA]
    simp only [List.mem_append, List.mem_cons] at ha ⊢
    rcases ha with z | z | z <;> simp [z]
  have nd : (p :: pof O (G.set i (.da (.dic ds)))).Nodup := by
    have n0 := h.nd
    unfold pof at n0 ⊢
    rw [eA, ← List.append_assoc] at n0
    rw [eB, ← List.append_assoc]
    exact (List.perm_middle (l₁ := op O ++ ads (G.take i)) (l₂ := ads (G.drop (i + 1))) (a := p)).nodup_iff.mp n0
  have np : p ∉ pof O (G.set i (.da (.dic ds))) := (List.nodup_cons.mp nd).1
  have gr : ExN (hid H (pof O G)) (hid H (pof O (G.set i (.da (.dic ds))))) := hid_sub sub
  refine ⟨by rw [List.length_set]; exact h.len, fun j t e => ?_, (List.nodup_cons.mp nd).2, by rw [srs_set hi rfl rfl]; exact h.ss, fun a o e nt n => gr a o (h.ex a o e nt n) nt, h.oo, h.on, h.tb⟩
  by_cases hj : j = i
  · subst hj
    rw [List.getElem?_set_self (List.getElem?_eq_some_iff.mp hi).1] at e
    cases e
    obtain ⟨o, h1, rfl, xs, h3, h4⟩ := h.sl j _ hi
    exact ⟨_, h1, .ref p, rfl, p, xs, rfl, by rw [hid_out np]; exact h3, DnK.mono gr ds h4⟩
  · rw [List.getElem?_set_ne (Ne.symm hj)] at e
    obtain ⟨o, h1, h2⟩ := h.sl j t e
    refine ⟨o, h1, ?_⟩
    cases t with
    | un => trivial
    | rf q => exact h2
    | da d =>
      obtain ⟨v, x1, x2⟩ := h2
      exact ⟨v, x1, Dn.mono gr d x2⟩
    | ow q ds =>
      obtain ⟨x1, xs, x2, x3⟩ := h2
      exact ⟨x1, xs, x2, DnA.mono gr ds x3⟩
    | od q ds =>
      obtain ⟨x1, xs, x2, x3⟩ := h2
      exact ⟨x1, xs, x2, DnK.mono gr ds x3⟩
    | oi q ds => exact h2
    | sr q => exact h2
end
section
variable {N Bk : List Sl → Prop} {R : Dt → Prop}
theorem run_releaseD {ts : TS} (i : Nat) {p : Addr} {ds : List (Str × Dt)} (h : Run K S ts (G.set i (.da (.dic ds))) N R Bk) (hi : G[i]? = some (.od p ds) := by rfl) : Run K S ts G N R Bk := fun B O D σ H hh a b c => h B O D σ H (hh.releaseD hi) a b c
theorem run_dz {ta : TA} {i : Nat} {s : Sl} {xs : List Str} {ys : List Dt} (h : Ea K S G ta (· = [.tup (strsD xs), .tup ys])) (hnd : xs.Nodup) (hl : xs.length = ys.length) (hi : G[i]? = some s) (hs : s.ad = none) (hn : ∀ p, N (G.set i (.od p (xs.zip ys)))) : Run K S (tAsg (tDz K ta) (gName i)) G N R Bk := fun B O D σ H hh a b c =>
  h B O σ H hh _ fun vs H1 es he h1 g1 d1 => by
    subst he
    obtain ⟨v, r, rfl, ⟨a1, us, rfl, s1, s2⟩, v2, r2, rfl, ⟨b1, ws, rfl, t1, t2⟩, e3⟩ := d1
    cases (show r2 = [] from e3)
    have ex : us = xs.map V.str := dnA_v s2 (by unfold strsD; rw [List.map_map, List.map_map]; rfl)
    subst ex
    have hk := kvz_keys (xs := xs) (ys := ws) (by rw [hl, DnA.len t2])
    have nd : ((kvz xs ws).map (·.1)).Nodup := by
      rw [hk]
      exact List.Pairwise.map _ (fun x y ne e => ne (Sum.inr.inj e)) hnd
    have em : mergeK [] (kvz xs ws) = kvz xs ws := by rw [mergeK_new nd fun q hq => by cases hq]; rfl
    refine ⟨a1, b1, xs, ws, rfl, (hid_ex _).sqT s1, (hid_ex _).sqT t1, fun p hp => ?_⟩
    rw [em]
    exact a _ _ _ (hn p) (h1.ownK hi hs hp (dnK_zip t2))
theorem valV_new {x : Str} : ∀ {kvs : List (Key × V)} {ds : List (Str × Dt)}, kvs.map (·.1) = ds.map (fun q => (Sum.inr q.1 : Key)) → (∀ q ∈ ds, q.1 ≠ x) → valV kvs (Sum.inr x : Key) = none
  | [], _, _, _ => rfl
  | kv :: kvs, [], e, _ => by cases e
  | kv :: kvs, q :: ds, e, h => by
    rw [List.map_cons, List.map_cons] at e
    injection e with e1 e2
    rw [valV_neg (by rw [e1]; exact fun z => h q (by simp) (Sum.inr.inj z))]
    exact valV_new e2 fun r hr => h r (by simp [hr])
theorem run_dput {te tx : TE} {i : Nat} {p : Addr} {ds : List (Str × Dt)} {x : Str} {d : Dt} (hi : G[i]? = some (.od p ds)) (he : Eg K S G te (· = d)) (hx : Eg K S G tx (· = .str x)) (hnew : ∀ q ∈ ds, q.1 ≠ x) (hl : ds.length < 1000) (hn : N (G.set i (.od p (ds ++ [(x, d)])))) :
    Run K S (sDPut (tVar i) tx te) G N R Bk := fun B O D σ H hh a b c =>
  he B O σ H hh _ fun v H1 d1 hd h1 g1 dn => by
    subst hd
    obtain ⟨o, e1, e2, _⟩ := h1.sl i _ hi
    subst e2
    refine ⟨_, e1, hx B O σ H1 h1 _ fun y H2 d2 hy h2 g2 dn2 => ?_⟩
    subst hy
    cases (show y = _ from dn2)
    obtain ⟨o, _, _, kvs, e3, e4⟩ := h2.sl i _ hi
    have hk := dnK_keys e4
    have hv : valV kvs (Sum.inr x : Key) = none := valV_new hk hnew
    have hlen : kvs.length < 1000 := by
      have := congrArg List.length hk
      rw [List.length_map, List.length_map] at this
      omega
    refine ⟨p, _, rfl, ?_, a _ _ _ hn (h2.dput (x := x) hi e3 (Dn.mono g2 d1 dn))⟩
    exact .inl ⟨kvs, Sum.inr x, e3, rfl, Nat.lt_trans hlen (by decide), by rw [L2.putK_new _ hv]⟩
end
/-- an own dict is lent to what gives a plain value: it alone is own -/
theorem eg_lend {te : TE} {i : Nat} {q : Addr} {ds : List (Str × Dt)} {d : Dt} {u : V} (hi : G[i]? = some (.od q ds)) (ha : ads (G.set i (.da (.dic ds))) = []) (hu : d.v? = some u) (h : Eg K [] (G.set i (.da (.dic ds))) te (· = d)) : Eg K [] G te (· = d) := fun B O σ H hh Q k => by
  have hr := hh.releaseD hi
  refine h B O σ H hr _ fun v H1 d1 hd h1 g1 dn => ?_
  subst hd
  have ev : v = u := dn_v dn hu
  have dall : ∀ H', Dn K H' d1 u := fun H' => by
    cases d1 <;> cases hu <;> exact rfl
  have ep : pof O (G.set i (.da (.dic ds))) = op O := by unfold pof; rw [ha, List.append_nil]; rfl
  obtain ⟨e1, e2⟩ := split_at (s' := .da (.dic ds)) hi
  have eq : ads G = [q] := by
    have eA : ads G = ads (G.take i) ++ q :: ads (G.drop (i + 1)) := by
      conv => lhs; rw [e1]
      unfold ads
      rw [List.filterMap_append, List.filterMap_cons]
      rfl
    have eB : ads (G.take i) ++ ads (G.drop (i + 1)) = [] := by
      rw [← ha, e2]
      unfold ads
      rw [List.filterMap_append, List.filterMap_cons]
      rfl
    rw [List.append_eq_nil_iff] at eB
    rw [eA, eB.1, eB.2]
    rfl
  have epG : pof O G = op O ++ [q] := by unfold pof; rw [eq]; rfl
  have nq : q ∉ op O := fun z => by
    have nd := hh.nd
    rw [epG] at nd
    exact (List.nodup_append.mp nd).2.2 q z q (by simp) rfl
  rw [ep] at g1
  have gG : Gr (pof O G) H H1 := fun a o e nt => by
    obtain ⟨n, e⟩ := hid_some e
    have na : a ∉ op O := fun z => n (by rw [epG]; exact List.mem_append_left _ z)
    have := g1 a o (by rw [hid_out na]; exact e) nt
    rw [hid_out n]
    exact (hid_some this).2
  have hq : H1 q = H q := by
    obtain ⟨o, _, _, kvs, e3, _⟩ := hh.sl i _ hi
    have := g1 q _ (by rw [hid_out nq]; exact e3) nt_dK
    rw [(hid_some this).2, e3]
  have h2 : Hold K B [] O G H1 σ := hh.grow gG (fun a ha' _ => by
    rw [epG] at ha'
    rcases List.mem_append.mp ha' with z | z
    · obtain ⟨x, hx, rfl⟩ := List.mem_map.mp z
      rw [h1.oo x hx, hh.oo x hx]
    · rw [List.mem_singleton.mp z]; exact hq) (fun a ha' => by cases ha') (fun x _ => by simp) (fun i s p _ _ _ => by simp) h1.tb
  exact k v H1 d1 rfl h2 gG (by rw [ev]; exact dall _)
end Sb

set_option Elab.async false
set_option linter.all false
set_option maxRecDepth 100000
set_option autoImplicit false
namespace Sb
open PySem PySem.Spec PyProof.Rows L2 TL
/-! ### a, *b = xs, xs a list -/
theorem star_items {prog : Program} {w : World} {A : Around} {E : Value → Shared → Prop} {s : Shared} {l : Addr} {x : Value} {its : List Value} {Q : List Value → Shared → Prop} (hl : s.heap.IsList l (x :: its).toArray) (hh : A.handled = none) (hz : its.length ≤ 16000)
    (h : ∀ D h' tk, s.heap.get? D = none → h'.get? D = some { cls := .type "list", data := .seq its.toArray } → (∀ b o, s.heap.get? b = some o → h'.get? b = some o) → Q [x, .ref D] { s with heap := h', toks := tk }) : wpAny (model prog w) A (unpackItems (.ref l) 2 (some 1)) Q E s := by
  have hlt : l ≠ s.heap.objs.size := by obtain ⟨o, ho, _⟩ := hl; exact Nat.ne_of_lt (Heap.lt_size ho)
  have hsz : (x :: its).toArray.size = its.length + 1 := by simp
  unfold unpackItems
  refine wpAny_bind ?_
  unfold notIterableAtAll
  refine wpAny_bind (wpAny_specialOf hl.typeIs PySem.slot_list_iter.lookup (wpAny_pure ?_))
  simp only [Bool.false_eq_true, if_false]
  refine wpAny_bind (wpAny_holding (wpAny_pyIter_list hl ?_))
  refine wpAny_bind (wpAny_holding (PySem.W.kun_draw hlt 1 0 _ _ ⟨_, Heap.get?_push_size _ rfl, rfl, rfl⟩ (hl.push _) (by rw [hsz]; omega) fun g1 hit hs1 => ?_))
  have hl1 : g1.IsList l (x :: its).toArray := (hl.push _).extBut hs1.extBut hlt
  rw [Nat.zero_add] at hit
  obtain ⟨oi, hoi, _⟩ := id hit
  obtain ⟨ol, hol, _⟩ := id hl1
  show wpAny _ _ (if ([x] : List Value).length < 1 then _ else _) _ _ _
  rw [if_neg (show ¬ ([x] : List Value).length < 1 from Nat.lt_irrefl 1)]
  refine wpAny_bind (wpAny_holding (PySem.W.kun_collect (s := { s with heap := g1 }) (T := "list_iterator") (.inr (.inr (.inl rfl))) (Walks.list (A := A.in1) hh s.heap.objs.size l hlt (x :: its).toArray) (fun j u st => st.1.typeIs) (k := 1) (by rw [hsz]; omega) ⟨hit, hl1⟩ (Heap.lt_size hoi) (Heap.lt_size hol) (fun g2 tk hk => ?_) (by rw [hsz, sizeLine_eq]; omega)))
  show wpAny _ _ (if its.length < 0 then _ else _) _ _ _
  rw [if_neg (by omega)]
  have ed : its.length - 0 = its.length := rfl
  show wpAny _ _ (newList (its.take (its.length - 0)) >>= fun d => pure ([x] ++ [d] ++ its.drop (its.length - 0))) _ _ _
  rw [ed, List.take_length, List.drop_length]
  refine wpAny_bind ?_
  unfold newList
  refine wpAny_newObj_type (wpAny_pure ?_) (by show its.toArray.size ≤ sizeLine; rw [List.size_toArray, sizeLine_eq]; omega)
  have keep : ∀ b o, s.heap.get? b = some o → g2.get? b = some o := fun b o e => by
    have nb : b ≠ s.heap.objs.size := Nat.ne_of_lt (Heap.lt_size e)
    exact hk b o nb (hs1.extBut b o nb (Heap.get?_push_of_some _ e))
  refine h _ _ tk ?_ (Heap.get?_push_size _ rfl) fun b o e => Heap.get?_push_of_some _ (keep b o e)
  cases q : s.heap.get? g2.objs.size with
  | none => rfl
  | some o => exact absurd (Heap.lt_size (keep _ o q)) (Nat.lt_irrefl _)
theorem obj_there {P : Program} {w : World} {H : Hp} {h : Heap} {a : Addr} {o : HO} (x : ObjOk P w H h a o) : ∃ ob, h.get? a = some ob := by
  cases o with
  | lst xs => obtain ⟨_, _, _, _, e⟩ := x; exact ⟨_, e⟩
  | tup xs => obtain ⟨_, _, _, p⟩ := x; obtain ⟨ob, e, _⟩ := p; exact ⟨ob, e⟩
  | dK kvs => obtain ⟨_, _, _, _, o, _, _, e, _⟩ := x; exact ⟨_, e⟩
  | dT kvs => obtain ⟨_, _, _, _, o, _, _, e, _⟩ := x; exact ⟨_, e⟩
  | set S n => obtain ⟨o, _, _, _, e, _⟩ := x; exact ⟨_, e⟩
  | ins C dx fs => obtain ⟨_, _, _, e, _⟩ := x; exact ⟨_, e⟩
  | own y => obtain ⟨_, e⟩ := x; exact ⟨_, e⟩
  | xd fs => obtain ⟨_, ⟨_, _, _, e, _⟩, _⟩ := x; exact ⟨_, e⟩
  | rng lo hi => obtain ⟨_, _, _, e⟩ := x; exact ⟨_, e⟩
  | frz ob u => obtain ⟨e, _⟩ := x; exact ⟨_, e⟩
  | tbl ps => exact ⟨_, (show h.get? a = some _ from x)⟩
  | met f y => exact ⟨_, (show h.get? a = some _ from x)⟩
  | ext φ => obtain ⟨_, ⟨_, e⟩, _⟩ := x; exact ⟨_, e⟩
def gStar (K : PySem.W.Frag) (i j : Nat) : TG := fun v σ H Q => ∃ (l : Addr) (x : V) (xs : List V), v = .ref l ∧ SqL K H l (x :: xs) ∧ xs.length ≤ 16000 ∧ ∀ p, H p = none → Q ((σ.set i (some x)).set j (some (.ref p))) (upd H p (.lst xs))
theorem pg_star {X : Cx} {i j : Nat} {a b : Str} {k : Nat} {pa pb ps pos : Pos} (hc : X.calm = true) (hN : X.N.Nodup) (hi : X.N[i]? = some a) (hj : X.N[j]? = some b) (ha : Loc X.env.scope a) (hb : Loc X.env.scope b)
    (hfa : X.fn a = true ∨ X.env.scope.names.lookup a = some .local := by first | exact .inl rfl | exact .inr rfl | assumption) (hfb : X.fn b = true ∨ X.env.scope.names.lookup b = some .local := by first | exact .inl rfl | exact .inr rfl | assumption) :
    PG X (.Tuple [.Name a pa, .Starred (.Name b pb) ps] k pos) (gStar X.K i j) := by
  refine ⟨fun pins s σ H v u Q I r hw => ?_⟩
  obtain ⟨l, x, xs, rfl, hq, hl, q⟩ := hw
  cases r
  obtain ⟨its, rv, pl, hz⟩ := I.list hq
  cases rv with
  | cons r1 rv =>
    rename_i u1 its
    have hlen := rv.length
    rw [assign_Tuple]
    refine wpAny_bind (wpAny_standAt ?_)
    show wpAny _ _ (unpack (.ref l) [(false, assign (.Name a pa) X.env), (true, assign (.Name b pb) X.env)]) _ _ _
    unfold unpack
    refine wpAny_bind (wpAny_holding (star_items pl.isList (I.ok.hd hc) (by omega) fun D h' tk hD hat keep => ?_))
    have hHD : H D = none := by
      cases z : H D with
      | none => rfl
      | some o =>
        obtain ⟨ob, e⟩ := obj_there (I.hok D o z)
        rw [hD] at e
        cases e
    have new : ObjOk X.prog X.w (upd H D (.lst xs)) h' D (.lst xs) := ⟨by rw [List.length_cons] at hz; omega, its, 0, rv, hat⟩
    have I1 : Inv X pins σ (upd H D (.lst xs)) { s with heap := h', toks := tk } := I.laidN keep hD hHD new
    refine assignInOrder_cons (wpAny_assign_Name (store_ok I1 hN hi ha r1 (fun s2 I2 => ?_) hfa))
    exact assignInOrder_cons (wpAny_assign_Name (store_ok I2 hN hj hb (show RelV (.ref D) (.ref D) from rfl) (fun s3 I3 => assignInOrder_nil ⟨_, _, I3, q D hHD⟩) hfb))
variable {K : KX} {S : List Addr} {G : List Sl} {N Bk : List Sl → Prop} {R : Dt → Prop}
theorem run_star {te : TE} {i j : Nat} {s t : Sl} {d : Dt} {ds : List Dt} (h : Eg K S G te (· = .lst (d :: ds))) (hi : G[i]? = some s) (hs : s.ad = none) (hj : G[j]? = some t) (ht : t.ad = none) (hij : i ≠ j) (hl : ds.length ≤ 16000) (hn : N ((G.set i (.da d)).set j (.da (.lst ds)))) :
    Run K S (tAsg te (gStar K i j)) G N R Bk := fun B O D σ H hh a b c =>
  h B O σ H hh _ fun v H1 e he h1 g1 d1 => by
    subst he
    obtain ⟨l, xs, rfl, e1, x, r, rfl, d2, d3⟩ := d1
    refine ⟨l, x, r, rfl, SqL.of (hid_ex _ _ _ e1), by rw [DnA.len d3]; exact hl, fun p hp => ?_⟩
    have h2 := (h1.more (new_ex (o := .lst r) hp)).set (d := d) (v := x) hi hs (Dn.mono (hid_new hp) d d2)
    have ep : pof O (G.set i (.da d)) = pof O G := pof_set hi hs
    have hj2 : (G.set i (.da d))[j]? = some t := by rw [List.getElem?_set_ne hij]; exact hj
    exact a _ _ _ hn (h2.set (d := .lst ds) (v := .ref p) hj2 ht (by rw [ep]; exact new_lst h1.trk hp d3))
end Sb

set_option Elab.async false
set_option linter.all false
set_option maxRecDepth 100000
set_option autoImplicit false
namespace Sb
open PySem PySem.Spec PyProof.Rows L2 TL
/-! ### cls(..), cls a local that holds the class -/
def tMakeV (i : Nat) (C : Addr) (sp : Sp) (t : TA) : TE := fun σ H Q => σ[i]? = some (some (.ref C)) ∧ tMake C sp [] E0 t σ H Q
theorem pe_mkV {X : Cx} {i j k : Nat} {x y : Str} {C : Addr} {sp : Sp} {p pos : Pos} {e : Expr} {es : List Expr} {t : TA} (c : Mak X.prog X.w X.K X.mg X.base k y C sp) (hr : Room j X.A) (hk : k + 1 ≤ j) (ha : PA X (e :: es) t) (hN : X.N[i]? = some x := by rfl)
    (hv : Vis X.env.scope x := by first | exact Or.inl rfl | exact Or.inr (Or.inl rfl) | exact Or.inr (Or.inr rfl)) (hd : (x == ("__debug__" : Str)) = false := by decide) (hcd : (x == ("__classdict__" : Str)) = false := by decide)
    (he : starEach (e :: es) X.env = (false, eval e X.env) :: starEach es X.env := by rfl) (hpl : (backTo pos (starEach es X.env)).any (·.1) = false := by rfl) : PE X (.Call (.Name x p) (e :: es) [] pos) (tMakeV i C sp t) := by
  refine ⟨fun pins s σ H Q I h => ?_⟩
  obtain ⟨h1, h2⟩ := h
  obtain ⟨f, fd, ps, M, F, hm, b⟩ := c.ex
  refine wpAny_Call_Name_kw (thn ((pe_var (pos := p) hN hv hd hcd).run pins s σ H (fun v H1 => v = .ref C ∧ H1 = H) I ⟨.ref C, h1, rfl, rfl⟩) fun u s1 ⟨v, H1, I1, r1, q1⟩ => ?_)
  obtain ⟨rfl, rfl⟩ := q1
  cases r1
  refine PySem.W.callWith_K (h₀ := X.base) I.ok.mod.kin M.kp (thn (ha.run pos pins s1 σ _ _ I1 h2) fun us s2 ⟨vs, H2, I2, r, q⟩ => ⟨I2.kIn, ?_⟩) he hpl
  exact run_make M F (hr.mono hk) b .nil pass0 I2 r q
variable {K : KX} {S : List Addr} {G : List Sl}
section
variable {al : Type} {rep : al → List Dt} {ok : al → Prop} {out : al → List (Str × Dt)} {post : al → Dt → Prop} {C : Addr}
theorem eg_makeV {tA : TA} {i : Nat} {px : List Dt → Prop} {pz : Dt → Prop} (hi : G[i]? = some (.rf C)) (h : Ea K S G tA px) (ha : ∀ ds, px ds → ∃ a, ds = rep a ∧ ok a ∧ pz (.obj C (out a))) : Eg K S G (tMakeV i C (spI K C rep ok out) tA) pz := fun B O σ H hh Q k => by
  obtain ⟨o, e1, e2⟩ := hh.sl i _ hi
  have e2 : o = some (.ref C) := e2
  subst e2
  exact ⟨e1, eg_make (E := E0) h ha B O σ H hh Q k⟩
/-! ### a def whose first parameter holds the class -/
def spC (K : KX) (C : Addr) (rep : al → List Dt) (ok : al → Prop) (post : al → Dt → Prop) : Sp := fun vs H Q E => ∃ ws, vs = .ref C :: ws ∧ spX K rep ok post ws H Q E
theorem entryC {P : List Addr} {H : Hp} {ds : List Dt} {ws : List V} {y : Str} {N : List Str} (t : Trk P H) (nd : P.Nodup) (tb : Tb K H) (d : DnA K (hid H P) ds ws) :
    Hold K (hid H P) [] (P.map fun a => (a, obj H a)) (.rf C :: fr0 ds N.length) H (L2.start (y :: N) (.ref C :: ws)) := by
  have hl := DnA.len d
  have ea : ads (.rf C :: fr0 ds N.length) = [] := by
    have : ads (.rf C :: fr0 ds N.length) = ads (fr0 ds N.length) := rfl
    rw [this, ads_fr0]
  have ep : pof (P.map fun a => (a, obj H a)) (.rf C :: fr0 ds N.length) = P := by
    unfold pof
    rw [ea, List.append_nil, List.map_map]
    exact List.map_id P
  refine ⟨?_, fun i s e => ?_, by rw [ep]; exact nd, ?_, by rw [ep]; exact fun a o e _ _ => e, fun q hq => ?_, fun q hq => ?_, tb⟩
  · unfold L2.start fr0
    simp only [List.length_append, List.length_map, List.length_replicate, List.length_cons, hl]
    omega
  · rw [ep]
    cases i with
    | zero =>
      cases e
      exact ⟨some (.ref C), rfl, rfl⟩
    | succ i =>
      have e' : (fr0 ds N.length)[i]? = some s := e
      obtain ⟨o, h1, h2⟩ := sl_fr0 (K := K) (H := H) (P := P) d i s e'
      refine ⟨o, ?_, h2⟩
      show ((some (V.ref C) :: ws.map some) ++ List.replicate ((y :: N).length - (V.ref C :: ws).length) none)[i + 1]? = some o
      have en : (y :: N).length - (V.ref C :: ws).length = N.length - ws.length := by simp only [List.length_cons]; omega
      rw [en]
      exact h1
  · have : srs (.rf C :: fr0 ds N.length) = srs (fr0 ds N.length) := rfl
    rw [this, srs_fr0]
  · obtain ⟨a, ha, rfl⟩ := List.mem_map.mp hq
    exact (t.obj ha).1
  · obtain ⟨a, ha, rfl⟩ := List.mem_map.mp hq
    exact (t.obj ha).2
variable {P : Program} {w : World} {mg : Str → Option Value} {base : Heap}
theorem fn_c {x qual : Str} {st : Stmt} {f : Addr} {fd : FuncData} {y : Str} {N ps : List Str} {k : Nat} (F : Fun K x qual st f fd) (Sc : FnScope (y :: N) (y :: ps) (defScope st)) (hl : ∀ a, (rep a).length = ps.length)
    (hb : ∀ (cdv : Value) (A : Around) (outer : List Env) (s : Shared) (H : Hp) (E : XK), Room k (A.deeper (envOfC qual (defScope st) s.heap.objs.size f cdv)) →
      ∃ t, PSs (cxOf CX0 P w K mg base (y :: N) qual (defScope st) f cdv A outer s H E).nox (defBody st) t ∧ ∀ a, ok a → Run K [] t (.rf C :: fr0 (rep a) N.length) (fun _ => post a .non) (post a) (fun _ => False)) :
    FnOk P w K mg base CX0 (k + 1) f fd (y :: ps) (spC K C rep ok post) := by
  refine F.ok Sc (fun vs H Q E h => ?_) fun cdv A outer s H vs Q E hr h => ?_
  · obtain ⟨ws, rfl, a, _, _, ds, _, _, _, d, rfl, _⟩ := h
    rw [List.length_cons, DnA.len d, hl a]
    rfl
  · obtain ⟨t, h1, h2⟩ := hb cdv A outer s H E hr
    obtain ⟨ws, rfl, a, oka, Pp, ds, tr, nd, tb, d, rfl, kk⟩ := h
    have Ho : op (Pp.map fun a => (a, obj H a)) = Pp := by unfold op; rw [List.map_map]; exact List.map_id Pp
    have fin : ∀ {v : V} {d : Dt} {H' : Hp}, post a d → Fin K (hid H Pp) [] (Pp.map fun a => (a, obj H a)) H' → Dn K (hid H' (op (Pp.map fun a => (a, obj H a)) ++ [])) d v → Q v H' := fun {v d H'} hd f dn => by
      rw [Ho, List.append_nil] at dn
      refine kk v d H' hd (fun b o e nt => ?_) f.tb dn
      by_cases hm : b ∈ Pp
      · have e1 := f.oo (b, obj H b) (List.mem_map_of_mem hm)
        have e2 := (tr.obj hm).1
        rw [e] at e2
        rw [Option.some.inj e2]
        exact e1
      · have e1 := f.ex b o (by rw [hid_out hm]; exact e) nt (by simp)
        exact (hid_some e1).2
    exact ⟨t, h1, h2 a oka _ _ _ _ H (entryC tr nd tb d) (fun G' σ' H' n hh => fin n hh.fin rfl) (fun v d H' r f dn => fin r f dn) (fun _ _ _ n _ => n.elim)⟩
end
end Sb

set_option Elab.async false
set_option linter.all false
set_option maxRecDepth 100000
set_option autoImplicit false
namespace Sb
open PySem PySem.Spec PyProof.Rows L2 TL
/-! ### C.m(..), m a classmethod -/
structure Cme (P : Program) (w : World) (K : PySem.W.Frag) (mg : Str → Option Value) (base : Heap) (k : Nat) (C : Addr) (m : Str) (sp : Sp) : Prop where
  ex : ∃ (mc : Value) (p g : Addr) (fd : FuncData) (ps : List Str), ClX.CRead K C mc ∧ ClX.CMet K C mc m p g ∧ FnOk P w K mg base CX0 k g fd ps sp ∧ Binds K fd ps []
theorem pe_cm {X : Cx} {j k : Nat} {m : Str} {sp : Sp} {C : Addr} {pos apos : Pos} {e o : Expr} {es : List Expr} {t : TA} {ta : TE} {pl : Sem Bool} (c : Cme X.prog X.w X.K X.mg X.base k C m sp) (hr : Room j X.A) (hk : k ≤ j) (he : PE X o ta) (ha : PA X (e :: es) t)
    (hst : starEach (e :: es) X.env = (false, eval e X.env) :: starEach es X.env := by rfl) (hpl : (backTo pos (starEach es X.env)).any (·.1) = false := by rfl)
    (ht : eval (.Call (.Attribute o m apos) (e :: es) [] pos) X.env = (do let ov ← eval o X.env; standAt apos.atName; let (f, first) ← holding [ov] (getMethod ov m pl); callWith pos f first (backTo pos (starEach (e :: es) X.env)) (backToKw pos (keywordEach [] X.env))) := by rfl) :
    PE X (.Call (.Attribute o m apos) (e :: es) [] pos) (ClX.tCMeth C (fun vs H Q E => sp (vs ++ []) H Q E) E0 ta t) := by
  obtain ⟨mc, p, g, fd, ps, c1, c2, F, b⟩ := c.ex
  exact ClX.pe_cmeth (pl := pl) he c1 c2 (FnOk.raw F b .nil) (hr.mono hk) pass0 ha hst hpl ht
variable {K : KX} {S : List Addr} {G : List Sl} {al : Type} {rep : al → List Dt} {ok : al → Prop} {post : al → Dt → Prop} {C : Addr}
theorem eg_cm {tA : TA} {px : List Dt → Prop} {pz : Dt → Prop} (h : Ea K S G tA px) (ha : ∀ ds, px ds → ∃ a, ds = rep a ∧ ok a ∧ ∀ d, post a d → pz d) : Eg K S G (ClX.tCMeth C (fun vs H Q E => spC K C rep ok post (vs ++ []) H Q E) E0 (tC (.ref C)) tA) pz := fun B O σ H hh Q k =>
  ⟨rfl, h B O σ H hh _ fun vs H1 ds hx h1 g1 d1 => by
    obtain ⟨a, rfl, oka, hz⟩ := ha ds hx
    refine ⟨vs, by rw [List.append_nil], a, oka, _, _, h1.trk, h1.nd, h1.tb, d1, rfl, fun v d H' hp e tb dn => k v H' d (hz d hp) (h1.moreN e tb) (g1.trans (hid_monoN fun a o _ z n => e a o z n)) dn⟩⟩
end Sb

set_option Elab.async false
set_option linter.all false
set_option maxRecDepth 100000
set_option autoImplicit false
namespace Sb
open PySem PySem.Spec PyProof.Rows L2 TL
/-! ### o.m(k = v, ..) -/
structure MetK (P : Program) (w : World) (K : PySem.W.Frag) (mg : Str → Option Value) (base : Heap) (k : Nat) (C : Addr) (m : Str) (ks : List Str) (sp : Sp) (gV : List V → List V → List V) : Prop where
  ex : ∃ (f : Addr) (fd : FuncData) (ps : List Str) (g : List Value → List Value → List Value), Cls K C ∧ Meth K C m f ∧ FnOk P w K mg base CX0 k f fd ps sp ∧ KBn K fd ps 1 ks g gV
def tMethK (C : Addr) (m : Str) (n : Nat) (sp : Sp) (gV : List V → List V → List V) (ta : TE) (tk : TA) : TE := fun σ H Q => ta σ H fun x H1 => ∃ a dx fs, x = .ref a ∧ H1 a = some (.ins C dx fs) ∧ fs.lookup m = none ∧ tk σ H1 fun zs H2 => zs.length = n ∧ sp (gV [x] zs) H2 Q E0
theorem pe_methK {X : Cx} {j k : Nat} {m : Str} {sp : Sp} {C : Addr} {ks : List Str} {gV : List V → List V → List V} {pos apos : Pos} {o : Expr} {kws : List Keyword} {tk : TA} {ta : TE} {pl : Sem Bool} (c : MetK X.prog X.w X.K X.mg X.base k C m ks sp gV) (hr : Room j X.A) (hk : k ≤ j) (he : PE X o ta) (hkw : PK X kws tk)
    (hall : (backToKw pos (keywordEach kws X.env)).all (·.1.isSome) = true := by rfl) (hks : (backToKw pos (keywordEach kws X.env)).filterMap (·.1) = ks := by rfl)
    (hpl : ((backTo pos (starEach [] X.env)).any (·.1) || (backToKw pos (keywordEach kws X.env)).any (·.1.isNone)) = false := by rfl)
    (ht : eval (.Call (.Attribute o m apos) [] kws pos) X.env = (do
      let ov ← eval o X.env
      standAt apos.atName
      let (f, first) ← holding [ov] (getMethod ov m pl)
      callWith pos f first (backTo pos (starEach [] X.env)) (backToKw pos (keywordEach kws X.env))) := by rfl) :
    PE X (.Call (.Attribute o m apos) [] kws pos) (tMethK C m ks.length sp gV ta tk) := by
  obtain ⟨f, fd, ps, g, c1, hm, F, hb⟩ := c.ex
  refine ⟨fun pins s σ H Q I h => ?_⟩
  refine PySem.W.methodCall_KW (pl := pl) (thn (he.run pins s σ H _ I h) fun u s1 ⟨x, H1, I1, rx, a, dx, fs, ex, ea, l, q⟩ => ?_) ht
  subst ex
  obtain rfl : u = Value.ref a := rx
  refine getmeth_ok I1 ea c1 hm l ?_
  refine PySem.W.callWith_KW0 (first := [.ref a]) (h₀ := X.base) I.ok.mod.kin hm.kp hall ?_ hpl
  refine thn (hkw.run pos pins s1 σ H1 _ I1 q) fun ws s2 ⟨zs, H2, I2, rz, l2, q2⟩ => ⟨I2.kIn, ?_⟩
  rw [hks]
  exact run_fnN (us := [.ref a]) (vs := [.ref a]) F (hr.mono hk) hb pass0 I2 (.cons rfl .nil) rz rfl l2 q2
/-- self, the second, the first -/
def swp {α : Type} : List α → List α → List α
  | [s], [b, n] => [s, n, b]
  | _, _ => []
theorem swp_rel {vs zs : List V} {us ws : List Value} (r1 : Vals vs us) (r2 : Vals zs ws) : Vals (swp vs zs) (swp us ws) := by
  cases r1 with
  | nil => exact .nil
  | cons a r1 =>
    cases r1 with
    | cons _ _ => exact .nil
    | nil =>
      cases r2 with
      | nil => exact .nil
      | cons b r2 =>
        cases r2 with
        | nil => exact .nil
        | cons c r2 =>
          cases r2 with
          | nil => exact .cons a (.cons c (.cons b .nil))
          | cons _ _ => exact .nil
/-- self, then the keywords in their order -/
def kap {α : Type} (us ws : List α) : List α := us ++ ws
theorem kap_rel {vs zs : List V} {us ws : List Value} (r1 : Vals vs us) (r2 : Vals zs ws) : Vals (kap vs zs) (kap us ws) := by
  induction r1 with
  | nil => exact r2
  | cons a _ ih => exact .cons a ih
variable {K : KX} {S : List Addr} {G : List Sl}
section
variable {al : Type} {rep : al → List Dt} {ok : al → Prop} {post : al → Dt → Prop}
theorem eg_methKX {C : Addr} {m : Str} {ta : TE} {tk : TA} {ds : List (Str × Dt)} {px : List Dt → Prop} {pz : Dt → Prop} {n : Nat} {gV : List V → List V → List V} (hs : Eg K S G ta (· = .obj C ds)) (hm : ds.lookup m = none) (hb : Ea K S G tk px)
    (h : ∀ es, px es → es.length = n ∧ ∃ a, ok a ∧ (∀ H v ws, Dn K H (.obj C ds) v → DnA K H es ws → DnA K H (rep a) (gV [v] ws)) ∧ ∀ d, post a d → pz d) : Eg K S G (tMethK C m n (spX K rep ok post) gV ta tk) pz := fun B O σ H hh Q k =>
  hs B O σ H hh _ fun v H1 d' hd h1 g1 d1 => by
    subst hd
    obtain ⟨a, dx, fs, rfl, e1, e2⟩ := id d1
    refine ⟨a, dx, fs, rfl, hid_ex _ _ _ e1, dnF_none e2 hm, hb B O σ H1 h1 _ fun vs H2 es hx h2 g2 d2 => ?_⟩
    obtain ⟨hn, b, okb, hg, hz⟩ := h es hx
    refine ⟨by rw [DnA.len d2]; exact hn, b, okb, _, _, h2.trk, h2.nd, h2.tb, hg _ _ _ (Dn.mono g2 _ d1) d2, rfl, fun v d H' hp e tb dn => k v H' d (hz d hp) (h2.moreN e tb) ((g1.trans g2).trans (hid_monoN fun a o _ z n => e a o z n)) dn⟩
end
/-! ### x or y -/
theorem tru_of {H : Hp} {P : List Addr} {d : Dt} {v : V} {b : Bool} (d1 : Dn K (hid H P) d v) (e : d.tru = some b) : TruV K v H b := by
  cases d with
  | non => cases e; cases (show v = _ from d1); rfl
  | bl _ => cases e; cases (show v = _ from d1); rfl
  | int _ => cases e; cases (show v = _ from d1); rfl
  | str _ => cases e
  | lst ds =>
    cases e
    obtain ⟨a, xs, rfl, e1, e2⟩ := d1
    exact .inl ⟨xs, SqL.of (hid_ex _ _ _ e1), nil_eq (DnA.len e2)⟩
  | tup ds =>
    cases e
    obtain ⟨a, xs, rfl, e1, e2⟩ := d1
    exact .inr (.inl ⟨xs, (hid_ex _).sqT e1, nil_eq (DnA.len e2)⟩)
  | dic _ => cases e
  | dii _ => cases e
  | obj _ _ => cases e
theorem pe_orTK {X : Cx} {K : PySem.W.Frag} {a b : Expr} {rest : List Expr} {pos : Pos} {ta tb : TE} (ha : PE X a ta) (hb : PE X (.BoolOp .Or (b :: rest) pos) tb) (h : X.K = K := by rfl) : PE X (.BoolOp .Or (a :: b :: rest) pos) (tOrT K ta tb) := h ▸ pe_orT ha hb
theorem eg_orT {ta tb : TE} {d : Dt} {b : Bool} {pz : Dt → Prop} (h1 : Eg K S G ta (· = d)) (e : d.tru = some b) (hT : b = true → pz d) (hF : b = false → Eg K S G tb pz) : Eg K S G (tOrT K ta tb) pz := fun B O σ H hh Q k =>
  h1 B O σ H hh _ fun v H1 d' hd hh1 g1 d1 => by
    subst hd
    refine ⟨b, tru_of d1 e, ?_⟩
    cases b with
    | true => exact iteT (k v H1 d' (hT rfl) hh1 g1 d1)
    | false => exact iteF (hF rfl B O σ H1 hh1 _ fun w H2 d hd h2 g2 d2 => k w H2 d hd h2 (g1.trans g2) d2)
/-! ### xs[::-1] -/
theorem pe_revLK {X : Cx} {K : PySem.W.Frag} {e : Expr} {te : TE} {k : Nat} {p1 p2 p3 pos : Pos} (he : PE X e te) (h : X.K = K := by rfl) : PE X (.Subscript e (.Slice none none (some (.UnaryOp .USub (.Constant (.int 1) k p1) p2)) p3) pos) (tRevL K te) := h ▸ pe_revL he
theorem DnA.rev : ∀ {ds : List Dt} {vs : List V} {H : Hp}, DnA K H ds vs → DnA K H ds.reverse vs.reverse
  | [], _, _, h => by cases (show _ = [] from h); exact rfl
  | d :: ds, _, _, h => by
    obtain ⟨v, r, rfl, h1, h2⟩ := h
    rw [List.reverse_cons, List.reverse_cons]
    exact DnA.app (DnA.rev h2) (DnA.one h1)
theorem ed_revL {te : TE} {ds : List Dt} (h : Eg K S G te (· = .lst ds)) : Eg K S G (tRevL K te) (· = .lst ds.reverse) := fun B O σ H hh Q k =>
  h B O σ H hh _ fun v H1 d hd h1 g1 d1 => by
    subst hd
    obtain ⟨a, xs, rfl, e1, e2⟩ := d1
    exact ⟨a, xs, rfl, SqL.of (hid_ex _ _ _ e1), fun p hp => k _ _ _ rfl (h1.more (new_ex hp)) (g1.trans (hid_new hp)) (new_lst h1.trk hp (DnA.rev e2))⟩
/-! ### a, b, c, d -/
theorem gg_four {i j l m : Nat} {s t u w : Sl} {d e f g : Dt} {W : List Nat} (hi : G[i]? = some s) (hs : s.ad = none) (hj : G[j]? = some t) (ht : t.ad = none) (hl : G[l]? = some u) (hu : u.ad = none) (hm : G[m]? = some w) (hw : w.ad = none) (hij : i ≠ j) (hil : i ≠ l) (hjl : j ≠ l) (him : i ≠ m) (hjm : j ≠ m) (hlm : l ≠ m)
    (hW : i ∈ W) (hW2 : j ∈ W) (hW3 : l ∈ W) (hW4 : m ∈ W) :
    Gg K S G (gTup K 4 (gCons (gName i) (gCons (gName j) (gCons (gName l) (gCons (gName m) gNil))))) (.tup [d, e, f, g]) W ((((G.set i (.da d)).set j (.da e)).set l (.da f)).set m (.da g)) := fun B O σ H v hh hd Q k => by
  obtain ⟨a, xs, rfl, h1, v1, r1, rfl, d1, v2, r2, rfl, d2, v3, r3, rfl, d3, v4, r4, rfl, d4, e3⟩ := hd
  subst e3
  have h2 := hh.set hi hs d1
  have ep : pof O (G.set i (.da d)) = pof O G := pof_set hi hs
  have hj2 : (G.set i (.da d))[j]? = some t := by rw [List.getElem?_set_ne hij]; exact hj
  have h3 := h2.set (d := e) (v := v2) hj2 ht (by rw [ep]; exact d2)
  have ep2 := (pof_set (O := O) (d := e) hj2 ht).trans ep
  have hl2 : ((G.set i (.da d)).set j (.da e))[l]? = some u := by rw [List.getElem?_set_ne hjl, List.getElem?_set_ne hil]; exact hl
  have h4 := h3.set (d := f) (v := v3) hl2 hu (by rw [ep2]; exact d3)
  have ep3 := (pof_set (O := O) (d := f) hl2 hu).trans ep2
  have hm2 : (((G.set i (.da d)).set j (.da e)).set l (.da f))[m]? = some w := by rw [List.getElem?_set_ne hlm, List.getElem?_set_ne hjm, List.getElem?_set_ne him]; exact hm
  have h5 := h4.set (d := g) (v := v4) hm2 hw (by rw [ep3]; exact d4)
  refine ⟨a, [v1, v2, v3, v4], rfl, (hid_ex _).sqT h1, rfl, v1, [v2, v3, v4], rfl, v2, [v3, v4], rfl, v3, [v4], rfl, v4, [], rfl, rfl, ?_⟩
  exact k _ h5 ((pof_set hm2 hw).trans ep3) ((((wipe_set hW4).trans (wipe_set hW3)).trans (wipe_set hW2)).trans (wipe_set hW))
/-! ### {} -/
theorem run_dnew {N Bk : List Sl → Prop} {R : Dt → Prop} {i : Nat} {s : Sl} (hi : G[i]? = some s) (hs : s.ad = none) (hn : ∀ p, N (G.set i (.od p []))) : Run K S (tAsg tDNewK (gName i)) G N R Bk := fun B O D σ H hh a b c => fun p hp =>
  a _ _ _ (hn p) (hh.ownK hi hs hp rfl)
end Sb

set_option Elab.async false
set_option linter.all false
set_option maxRecDepth 100000
set_option autoImplicit false
namespace Sb
open PySem PySem.Spec PyProof.Rows L2 TL
variable {K : KX} {S : List Addr} {G : List Sl}
section
variable {B : Hp} {O : Ow} {H : Hp} {σ : L2.St}
theorem slOk_eq {P P' : List Addr} {o : Option V} {t : Sl} (e : hid H P = hid H P') (h : SlOk K P H o t) : SlOk K P' H o t := by
  cases t with
  | un => trivial
  | rf q => exact h
  | da d =>
    obtain ⟨v, x1, x2⟩ := h
    exact ⟨v, x1, e ▸ x2⟩
  | ow q ds =>
    obtain ⟨x1, xs, x2, x3⟩ := h
    exact ⟨x1, xs, x2, e ▸ x3⟩
  | od q ds =>
    obtain ⟨x1, xs, x2, x3⟩ := h
    exact ⟨x1, xs, x2, e ▸ x3⟩
  | oi q ds => exact h
  | sr q => exact h
theorem ads_own {i : Nat} {s : Sl} {p : Addr} {ds : List Dt} (hi : G[i]? = some s) (hs : s.ad = none) : ads G = ads (G.take i) ++ ads (G.drop (i + 1)) ∧ ads (G.set i (.ow p ds)) = ads (G.take i) ++ p :: ads (G.drop (i + 1)) := by
  obtain ⟨e1, e2⟩ := split_at (s' := .ow p ds) hi
  constructor
  · conv => lhs; rw [e1]
    unfold ads
    rw [List.filterMap_append, List.filterMap_cons, hs]
  · rw [e2]
    unfold ads
    rw [List.filterMap_append, List.filterMap_cons]
    rfl
theorem hid_own {i : Nat} {s : Sl} {p : Addr} {ds : List Dt} (hi : G[i]? = some s) (hs : s.ad = none) : hid H (pof O (G.set i (.ow p ds))) = hid H (p :: pof O G) := by
  obtain ⟨eA, eB⟩ := ads_own (p := p) (ds := ds) hi hs
  have mem : ∀ a, a ∈ pof O (G.set i (.ow p ds)) ↔ a ∈ p :: pof O G := fun a => by
    unfold pof
    rw [eA, eB]
    simp only [List.mem_append, List.mem_cons]
    constructor
    · rintro (z | z | z | z) <;> simp [z]
    · rintro (z | z | z | z) <;> simp [z]
  funext a
  by_cases m : a ∈ p :: pof O G
  · rw [hid_in m, hid_in ((mem a).mpr m)]
  · rw [hid_out m, hid_out fun z => m ((mem a).mp z)]
/-- what is kept apart comes to stand in a slot -/
theorem Hold.taken {p : Addr} {xs : List V} (h : Hold K B S ((p, .lst xs) :: O) G H σ) {i : Nat} {s : Sl} {ds : List Dt} (hi : G[i]? = some s) (hs : s.ad = none) (hd : DnA K (hid H (p :: pof O G)) ds xs) : Hold K B S O (G.set i (.ow p ds)) H (σ.set i (some (.ref p))) := by
  have hlt : i < G.length := (List.getElem?_eq_some_iff.mp hi).1
  obtain ⟨eA, eB⟩ := ads_own (p := p) (ds := ds) hi hs
  have eq : hid H (pof O (G.set i (.ow p ds))) = hid H (p :: pof O G) := hid_own hi hs
  have eq' : hid H (pof ((p, .lst xs) :: O) G) = hid H (pof O (G.set i (.ow p ds))) := eq.symm
  refine ⟨by rw [List.length_set, List.length_set]; exact h.len, fun j t e => ?_, ?_, ?_, fun a o e nt n => by rw [← eq']; exact h.ex a o e nt n, fun q hq => h.oo q (List.mem_cons_of_mem _ hq), fun q hq => h.on q (List.mem_cons_of_mem _ hq), h.tb⟩
  · by_cases hj : j = i
    · subst hj
      rw [List.getElem?_set_self hlt] at e
      cases e
      exact ⟨some (.ref p), List.getElem?_set_self (by rw [h.len]; exact hlt), rfl, xs, h.oo (p, .lst xs) List.mem_cons_self, by rw [eq]; exact hd⟩
    · rw [List.getElem?_set_ne (Ne.symm hj)] at e
      obtain ⟨o, h1, h2⟩ := h.sl j t e
      exact ⟨o, by rw [List.getElem?_set_ne (Ne.symm hj)]; exact h1, slOk_eq eq' h2⟩
  · have n0 := h.nd
    have n1 : (p :: (op O ++ (ads (G.take i) ++ ads (G.drop (i + 1))))).Nodup := by
      rw [← eA]
      exact n0
    unfold pof
    rw [eB, ← List.append_assoc]
    rw [← List.append_assoc] at n1
    exact (List.perm_middle (l₁ := op O ++ ads (G.take i)) (l₂ := ads (G.drop (i + 1))) (a := p)).nodup_iff.mpr n1
  · obtain ⟨e1, e2⟩ := split_at (s' := .ow p ds) hi
    rw [← h.ss, e2]
    conv => rhs; rw [e1]
    have sd : s.sd = none := sd_of hs
    unfold srs
    rw [List.filterMap_append, List.filterMap_append, List.filterMap_cons, List.filterMap_cons, sd]
    rfl
end
section
variable {N Bk : List Sl → Prop} {R : Dt → Prop}
/-- a, b, c = x, [], y -/
theorem run_par3M {ta tc : TE} {i j l : Nat} {s t u : Sl} {p q : Dt → Prop} (ha : Eg K S G ta p) (hc : Eg K S G tc q) (hi : G[i]? = some s) (hs : s.ad = none) (hj : G[j]? = some t) (ht : t.ad = none) (hl : G[l]? = some u) (hu : u.ad = none) (hij : i ≠ j) (hil : i ≠ l) (hjl : j ≠ l)
    (hn : ∀ d r e, p d → q e → N (((G.set i (.da d)).set j (.ow r [])).set l (.da e))) : Run K S (tPar3 i j l (tCons ta (tCons (tLst tNil) (tCons tc tNil)))) G N R Bk := fun B O D σ H hh a b c =>
  ha B O σ H hh _ fun v H1 d hd h1 g1 d1 => ⟨Nat.zero_le _, fun r hr => by
    have sub : ∀ x o, hid H1 (pof O G) x = some o → x ∉ S := fun x o e z => by
      obtain ⟨n, _⟩ := hid_some e
      obtain ⟨m, hm⟩ := h1.srcIn z
      exact n (List.mem_append_right _ (mem_ads hm rfl))
    refine hc _ ((r, .lst []) :: O) σ _ (h1.rebase.apart hr sub) _ fun w H3 e he h3 g3 d3 => ?_
    have e13 : ExN (hid H1 (pof O G)) (hid H3 (pof ((r, .lst []) :: O) G)) := fun x o ex nt => h3.ex x o ex nt (sub x o ex)
    have h4 := (h3.based (B := B) fun x o ex nt n => h1.ex x o ex nt n).set (i := i) (d := d) (v := v) hi hs (Dn.mono e13 d d1)
    have ep : pof O (G.set i (.da d)) = pof O G := pof_set hi hs
    have hj2 : (G.set i (.da d))[j]? = some t := by rw [List.getElem?_set_ne hij]; exact hj
    have h5 := h4.taken (ds := []) hj2 ht rfl
    have hl2 : ((G.set i (.da d)).set j (.ow r []))[l]? = some u := by rw [List.getElem?_set_ne hjl, List.getElem?_set_ne hil]; exact hl
    have eq : hid H3 (pof O ((G.set i (.da d)).set j (.ow r []))) = hid H3 (pof ((r, .lst []) :: O) G) := by
      rw [hid_own hj2 ht, ep]
      rfl
    exact ⟨v, .ref r, w, rfl, a _ _ _ (hn d r e hd he) (h5.set hl2 hu (by rw [eq]; exact d3))⟩⟩
end
/-! ### lending -/
mutual
def Dt.nodic : Dt → Bool
  | .lst ds => nodicA ds
  | .tup ds => nodicA ds
  | .dic _ => false
  | .dii _ => false
  | .obj _ _ => false
  | _ => true
def nodicA : List Dt → Bool
  | [] => true
  | d :: ds => d.nodic && nodicA ds
end
theorem sqT_without {H : Hp} {P P' : List Addr} {q a : Addr} {kvs : List (Key × V)} {xs : List V} (hq : H q = some (.dK kvs)) (hP : ∀ a, a ∈ P' → a = q ∨ a ∈ P) (h : SqT K (hid H P) a xs) : SqT K (hid H P') a xs := by
  rcases h with (h | ⟨o, h⟩) | h
  · obtain ⟨n, e⟩ := hid_some h
    refine .inl (.inl ?_)
    rw [hid_out fun z => (hP a z).elim (fun y => by rw [y, hq] at e; cases e) n]
    exact e
  · obtain ⟨n, e⟩ := hid_some h
    refine .inl (.inr ⟨o, ?_⟩)
    rw [hid_out fun z => (hP a z).elim (fun y => by rw [y, hq] at e; cases e) n]
    exact e
  · exact .inr h
mutual
theorem Dn.without {H : Hp} {P P' : List Addr} {q : Addr} {kvs : List (Key × V)} (hq : H q = some (.dK kvs)) (hP : ∀ a, a ∈ P' → a = q ∨ a ∈ P) : ∀ (d : Dt) {v : V}, d.nodic = true → Dn K (hid H P) d v → Dn K (hid H P') d v
  | .non, _, _, h => h
  | .bl _, _, _, h => h
  | .int _, _, _, h => h
  | .str _, _, _, h => h
  | .lst ds, _, n, h => by
    obtain ⟨a, xs, rfl, h1, h2⟩ := h
    obtain ⟨na, e⟩ := hid_some h1
    refine ⟨a, xs, rfl, ?_, DnA.without hq hP ds n h2⟩
    rw [hid_out fun z => (hP a z).elim (fun y => by rw [y, hq] at e; cases e) na]
    exact e
  | .tup ds, _, n, h => by
    obtain ⟨a, xs, rfl, h1, h2⟩ := h
    exact ⟨a, xs, rfl, sqT_without hq hP h1, DnA.without hq hP ds n h2⟩
  | .dic _, _, n, _ => by cases n
  | .dii _, _, n, _ => by cases n
  | .obj _ _, _, n, _ => by cases n
theorem DnA.without {H : Hp} {P P' : List Addr} {q : Addr} {kvs : List (Key × V)} (hq : H q = some (.dK kvs)) (hP : ∀ a, a ∈ P' → a = q ∨ a ∈ P) : ∀ (d : List Dt) {v : List V}, nodicA d = true → DnA K (hid H P) d v → DnA K (hid H P') d v
  | [], _, _, h => h
  | d :: ds, _, n, h => by
    obtain ⟨v, r, rfl, h1, h2⟩ := h
    have n' : (d.nodic && nodicA ds) = true := n
    rw [Bool.and_eq_true] at n'
    exact ⟨v, r, rfl, Dn.without hq hP d n'.1 h1, DnA.without hq hP ds n'.2 h2⟩
end
theorem nodicA_all : ∀ {ds : List Dt}, (∀ d ∈ ds, d.nodic = true) → nodicA ds = true
  | [], _ => rfl
  | d :: ds, h => by
    show (d.nodic && nodicA ds) = true
    rw [h d (by simp), nodicA_all fun e he => h e (by simp [he])]
    rfl
/-- an own dict is lent to what gives data without dicts: it alone is own -/
theorem eg_lendN {te : TE} {i : Nat} {q : Addr} {ds : List (Str × Dt)} {pz : Dt → Prop} (hi : G[i]? = some (.od q ds)) (ha : ads (G.set i (.da (.dic ds))) = []) (hu : ∀ d, pz d → d.nodic = true) (h : Eg K [] (G.set i (.da (.dic ds))) te pz) : Eg K [] G te pz := fun B O σ H hh Q k => by
  have hr := hh.releaseD hi
  refine h B O σ H hr _ fun v H1 d1 hd h1 g1 dn => ?_
  have ep : pof O (G.set i (.da (.dic ds))) = op O := by unfold pof; rw [ha, List.append_nil]; rfl
  obtain ⟨e1, e2⟩ := split_at (s' := .da (.dic ds)) hi
  have eq : ads G = [q] := by
    have eA : ads G = ads (G.take i) ++ q :: ads (G.drop (i + 1)) := by
      conv => lhs; rw [e1]
      unfold ads
      rw [List.filterMap_append, List.filterMap_cons]
      rfl
    have eB : ads (G.take i) ++ ads (G.drop (i + 1)) = [] := by
      rw [← ha, e2]
      unfold ads
      rw [List.filterMap_append, List.filterMap_cons]
      rfl
    rw [List.append_eq_nil_iff] at eB
    rw [eA, eB.1, eB.2]
    rfl
  have epG : pof O G = op O ++ [q] := by unfold pof; rw [eq]; rfl
  have nq : q ∉ op O := fun z => by
    have nd := hh.nd
    rw [epG] at nd
    exact (List.nodup_append.mp nd).2.2 q z q (by simp) rfl
  rw [ep] at g1 dn
  have gG : Gr (pof O G) H H1 := fun a o e nt => by
    obtain ⟨n, e⟩ := hid_some e
    have na : a ∉ op O := fun z => n (by rw [epG]; exact List.mem_append_left _ z)
    have := g1 a o (by rw [hid_out na]; exact e) nt
    rw [hid_out n]
    exact (hid_some this).2
  obtain ⟨o0, _, _, kvs, e3, _⟩ := hh.sl i _ hi
  have hq1 : H1 q = some (.dK kvs) := (hid_some (g1 q _ (by rw [hid_out nq]; exact e3) nt_dK)).2
  have hq : H1 q = H q := by rw [hq1, e3]
  have h2 : Hold K B [] O G H1 σ := hh.grow gG (fun a ha' _ => by
    rw [epG] at ha'
    rcases List.mem_append.mp ha' with z | z
    · obtain ⟨x, hx, rfl⟩ := List.mem_map.mp z
      rw [h1.oo x hx, hh.oo x hx]
    · rw [List.mem_singleton.mp z]; exact hq) (fun a ha' => by cases ha') (fun x _ => by simp) (fun i s p _ _ _ => by simp) h1.tb
  refine k v H1 d1 hd h2 gG (Dn.without hq1 (fun a ha' => ?_) d1 (hu d1 hd) dn)
  rw [epG] at ha'
  rcases List.mem_append.mp ha' with z | z
  · exact .inr z
  · exact .inl (List.mem_singleton.mp z)
/-! ### [e for x in ..] where the walk is drawn -/
theorem eg_lcW {wi : TI} {te : TE} {i : Nat} {pw : List Dt → Prop} {p : Dt → Prop} (hi : G[i]? = some .un) (hw : Wk K S G wi pw) (hl : ∀ ds, pw ds → ds.length ≤ 10000) (he : ∀ ds, pw ds → ∀ d ∈ ds, Eg K S (G.set i (.da d)) te p) :
    Eg K S G (tLc wi (gName i) tYes te [i]) (fun d => ∃ ds es, pw ds ∧ d = .lst es ∧ es.length = ds.length ∧ ∀ e ∈ es, p e) := by
  refine eg_lc (Rel := fun d o => ∃ e, o = some e ∧ p e) (fun j hj s e => ?_) hw fun ds hds => ?_
  · have : j = i := by simpa using hj
    subst this
    rw [hi] at e
    exact (Option.some.inj e).symm
  · refine ⟨hl ds hds, fun es h => ⟨ds, es, hds, rfl, ?_⟩, fun d hd => ⟨_, (· = true), gg_name hi rfl (by simp), fun B O σ H hh Q k => k true H rfl hh (Gr.refl _ _), fun z => (Bool.false_ne_true z).elim, fun _ => ?_, fun B O H σ hh => hh.drop hi⟩⟩
    · have key : ∀ {ds es : List Dt}, Outs (fun d o => ∃ e, o = some e ∧ p e) ds es → es.length = ds.length ∧ ∀ e ∈ es, p e := fun {ds es} h => by
        induction h with
        | nil => exact ⟨rfl, fun e he => by cases he⟩
        | skip _ r ih =>
          obtain ⟨e, z, _⟩ := r
          cases z
        | add _ r ih =>
          obtain ⟨e, z, hp⟩ := r
          refine ⟨by rw [List.length_append, List.length_append, ih.1]; rfl, fun e' he' => ?_⟩
          rcases List.mem_append.mp he' with q | q
          · exact ih.2 e' q
          · rw [List.mem_singleton] at q
            rw [q, Option.some.inj z]; exact hp
      exact key h
    · exact eg_imp (he ds hds d hd) fun e hp => ⟨e, rfl, hp⟩
end Sb

set_option Elab.async false
set_option linter.all false
set_option maxRecDepth 100000
set_option autoImplicit false
namespace Sb
open PySem PySem.Spec PyProof.Rows L2 TL
theorem nat_mod {i : Int} {n : Nat} (h : 0 < n) : ∃ r : Nat, i % (n : Int) = (r : Int) ∧ r < n := by
  have h1 := Int.emod_nonneg i (b := (n : Int)) (by omega)
  have h2 := Int.emod_lt_of_pos i (b := (n : Int)) (by omega)
  exact ⟨(i % (n : Int)).toNat, by omega, by omega⟩
theorem strs_at {xs : List Str} {r : Nat} (h : r < xs.length) : ∃ x, xs[r]? = some x ∧ x ∈ xs ∧ atI (strsD xs) (r : Int) = some (.str x) := by
  refine ⟨xs[r], List.getElem?_eq_getElem h, List.getElem_mem h, ?_⟩
  refine atI_nat ?_
  unfold strsD
  rw [List.getElem?_map, List.getElem?_eq_getElem h]
  rfl
/-! ### names drawn: the texts -/
def sSig : Str := "abcdefghijklmnopqrstuvwxyz0123456789"
def wordsL : List Str := ["if", "keep", "sell", "at", "seats", "high", "low"]
theorem sig_eq : cs sSig = List.range' 97 26 ++ List.range' 48 10 := by decide +kernel
theorem sig_len : sSig.length = 36 := by decide +kernel
theorem sig_cut : cs (cutS sSig none (some 26)) = List.range' 97 26 := by decide +kernel
theorem sig_let {r : Nat} (h : r < 26) : atI (cs sSig) (r : Int) = some (97 + r) := by
  refine atI_nat ?_
  rw [sig_eq, List.getElem?_append_left (by rw [List.length_range']; exact h), List.getElem?_range' h]
  simp
theorem sig_any {r : Nat} (h : r < 36) : ∃ c, atI (cs sSig) (r : Int) = some c ∧ (isLet c ∨ isDig c) := by
  by_cases h1 : r < 26
  · exact ⟨97 + r, sig_let h1, .inl (by unfold isLet; omega)⟩
  · refine ⟨48 + (r - 26), atI_nat ?_, .inr (by unfold isDig; omega)⟩
    rw [sig_eq, List.getElem?_append_right (by rw [List.length_range']; omega), List.length_range', List.getElem?_range' (by omega)]
    simp
def nameB (x : Str) : Bool := match cs x with
  | [] => false
  | c :: r => decide (97 ≤ c ∧ c ≤ 122) && (r.all fun d => decide ((97 ≤ d ∧ d ≤ 122) ∨ (48 ≤ d ∧ d ≤ 57))) && decide (r.length ≤ 7)
theorem nameB_ok {x : Str} (h : nameB x = true) : NameOk x := by
  unfold nameB at h
  cases e : cs x with
  | nil => rw [e] at h; cases h
  | cons c r =>
    rw [e] at h
    have h' : (decide (97 ≤ c ∧ c ≤ 122) && (r.all fun d => decide ((97 ≤ d ∧ d ≤ 122) ∨ (48 ≤ d ∧ d ≤ 57))) && decide (r.length ≤ 7)) = true := h
    rw [Bool.and_eq_true, Bool.and_eq_true] at h'
    refine ⟨c, r, e, of_decide_eq_true (p := 97 ≤ c ∧ c ≤ 122) h'.1.1, fun d hd => ?_, of_decide_eq_true h'.2⟩
    have := of_decide_eq_true (List.all_eq_true.mp h'.1.2 d hd)
    exact this
theorem words_ok : ∀ x ∈ wordsL, NameOk x := fun x hx => nameB_ok (by
  have : wordsL.all nameB = true := by decide +kernel
  exact List.all_eq_true.mp this x hx)
theorem cs_one (c : Nat) : cs (⟨#[c]⟩ : Str) = [c] := rfl
theorem name_one {c : Nat} (h : isLet c) : NameOk ⟨#[c]⟩ := ⟨c, [], rfl, h, fun d hd => by (cases hd), by simp⟩
theorem cs_app (x y : Str) : cs (x ++ y) = cs x ++ cs y := by
  exact tl_append x y
theorem name_more {x : Str} {c : Nat} (h : NameOk x) (hl : x.length < 8) (hc : isLet c ∨ isDig c) : NameOk (x ++ ⟨#[c]⟩) := by
  obtain ⟨a, r, e, h1, h2, _⟩ := h.ex
  refine ⟨a, r ++ [c], by rw [cs_app, e, cs_one]; rfl, h1, fun d hd => ?_, ?_⟩
  · rcases List.mem_append.mp hd with z | z
    · exact h2 d z
    · have : d = c := by simpa using z
      rw [this]; exact hc
  · rw [len_cs, e, List.length_cons] at hl
    rw [List.length_append, List.length_singleton]
    omega
theorem pigeon : ∀ {L M : List Str}, L.Nodup → (∀ x ∈ L, x ∈ M) → L.length ≤ M.length
  | [], _, _, _ => Nat.zero_le _
  | x :: L, M, nd, h => by
    obtain ⟨n1, n2⟩ := List.nodup_cons.mp nd
    have hx : x ∈ M := h x (by simp)
    have ih := pigeon (L := L) (M := M.erase x) n2 fun y hy => (List.mem_erase_of_ne (fun z => n1 (by rw [← z]; exact hy))).mpr (h y (by simp [hy]))
    have := List.length_erase_of_mem hx
    have hp : 0 < M.length := List.length_pos_of_mem hx
    rw [List.length_cons]
    omega
def spareB (names : List Str) : Dt → Bool
  | .str x => !decide (x ∈ names)
  | _ => false
theorem spare_ex {names : List Str} (h : names.length ≤ 25) : ∃ c, isLet c ∧ (⟨#[c]⟩ : Str) ∉ names ∧ atI (((sgs (cutS sSig none (some 26))).filter (spareB names)).map fun d => d) 0 = some (.str ⟨#[c]⟩) := by
  cases e : (sgs (cutS sSig none (some 26))).filter (spareB names) with
  | nil =>
    exfalso
    have all : ∀ c, 97 ≤ c → c ≤ 122 → (⟨#[c]⟩ : Str) ∈ names := fun c h1 h2 => by
      have hm : Dt.str ⟨#[c]⟩ ∈ sgs (cutS sSig none (some 26)) := by
        unfold sgs
        refine List.mem_map.mpr ⟨c, ?_, rfl⟩
        rw [show (cutS sSig none (some 26)).cps.toList = List.range' 97 26 from sig_cut, List.mem_range'_1]
        omega
      have := List.filter_eq_nil_iff.mp e _ hm
      have t : ¬ (!decide ((⟨#[c]⟩ : Str) ∈ names)) = true := this
      simpa using t
    have nd : ((List.range' 97 26).map fun c => (⟨#[c]⟩ : Str)).Nodup := by decide +kernel
    have := pigeon nd (M := names) fun x hx => by
      obtain ⟨c, hc, rfl⟩ := List.mem_map.mp hx
      rw [List.mem_range'_1] at hc
      exact all c (by omega) (by omega)
    rw [List.length_map, List.length_range'] at this
    omega
  | cons d r =>
    have hm : d ∈ (sgs (cutS sSig none (some 26))).filter (spareB names) := by rw [e]; exact List.mem_cons_self
    obtain ⟨h1, h2⟩ := List.mem_filter.mp hm
    unfold sgs at h1
    obtain ⟨c, hc, rfl⟩ := List.mem_map.mp h1
    rw [show (cutS sSig none (some 26)).cps.toList = List.range' 97 26 from sig_cut, List.mem_range'_1] at hc
    have t : (!decide ((⟨#[c]⟩ : Str) ∈ names)) = true := h2
    exact ⟨c, by unfold isLet; omega, by simpa using t, at0⟩
section
variable {P : Program} {w : World} {K : KX} {mg : Str → Option Value} {base : Heap} {aS aO C : Addr}
theorem ea_S {S : List Addr} {G : List Sl} {x : Str} {ys : List Str} {tA : TA} (h : Ea K S G tA (· = strsD ys)) : Ea K S G (tCons (tC (.str x)) tA) (· = strsD (x :: ys)) := ea_cons eg_str h fun _ _ e1 e2 => by rw [e1, e2]; rfl
theorem ea_0 {S : List Addr} {G : List Sl} : Ea K S G tNil (· = strsD []) := ea_nil
theorem inO {S : List Addr} {G : List Sl} {te : TE} {i : Nat} {p : Addr} {x : Str} {ys : List Str} (hi : G[i]? = some (.ow p (strsD ys))) (he : Eg K S G te (· = .str x)) : Eg K S G (tOp (rInA K) te (tVar i)) (· = .bl (decide (x ∈ ys))) := fun B O σ H hh Q k =>
  he B O σ H hh _ fun v H1 d hd h1 g1 d1 => by
    subst hd
    cases (show v = _ from d1)
    obtain ⟨h2, xs, h3, h4⟩ := own_dn h1 hi
    have ex : xs = ys.map V.str := dnA_v h4 (by unfold strsD; rw [List.map_map, List.map_map]; rfl)
    subst ex
    have e : inV (V.str x) (ys.map V.str) = decide (x ∈ ys) := by
      unfold inV
      rw [List.any_map]
      by_cases h : x ∈ ys
      · rw [decide_eq_true h]
        exact List.any_eq_true.mpr ⟨x, h, by show eqV (V.str x) (V.str x) = true; unfold eqV; simp⟩
      · rw [decide_eq_false h]
        exact List.any_eq_false.mpr fun y hy => by
          show ¬ eqV (V.str y) (V.str x) = true
          unfold eqV
          have : y ≠ x := fun z => h (z ▸ hy)
          simpa using this
    refine ⟨_, h2, .inl ⟨p, _, rfl, .inl (SqL.of h3), rfl, by rw [List.all_map]; exact List.all_eq_true.mpr fun _ _ => rfl, ?_⟩⟩
    rw [e]
    exact k _ _ _ rfl h1 g1 rfl
theorem niO {S : List Addr} {G : List Sl} {te : TE} {i : Nat} {p : Addr} {x : Str} {ys : List Str} (hi : G[i]? = some (.ow p (strsD ys))) (he : Eg K S G te (· = .str x)) : Eg K S G (tOp (rNiA K) te (tVar i)) (· = .bl (!decide (x ∈ ys))) := fun B O σ H hh Q k =>
  he B O σ H hh _ fun v H1 d hd h1 g1 d1 => by
    subst hd
    cases (show v = _ from d1)
    obtain ⟨h2, xs, h3, h4⟩ := own_dn h1 hi
    have ex : xs = ys.map V.str := dnA_v h4 (by unfold strsD; rw [List.map_map, List.map_map]; rfl)
    subst ex
    have e : inV (V.str x) (ys.map V.str) = decide (x ∈ ys) := by
      unfold inV
      rw [List.any_map]
      by_cases h : x ∈ ys
      · rw [decide_eq_true h]
        exact List.any_eq_true.mpr ⟨x, h, by show eqV (V.str x) (V.str x) = true; unfold eqV; simp⟩
      · rw [decide_eq_false h]
        exact List.any_eq_false.mpr fun y hy => by
          show ¬ eqV (V.str y) (V.str x) = true
          unfold eqV
          have : y ≠ x := fun z => h (z ▸ hy)
          simpa using this
    refine ⟨_, h2, .inl ⟨p, _, rfl, .inl (SqL.of h3), rfl, by rw [List.all_map]; exact List.all_eq_true.mpr fun _ _ => rfl, ?_⟩⟩
    rw [e]
    exact k _ _ _ rfl h1 g1 rfl
end
theorem least {g : Nat → Bool} {n : Nat} (h : g n = true) : ∃ j, j ≤ n ∧ g j = true ∧ ∀ k, k < j → g k = false := by
  induction n using Nat.strongRecOn with
  | ind n ih =>
    by_cases q : ∃ k, k < n ∧ g k = true
    · obtain ⟨k, hk, gk⟩ := q
      obtain ⟨j, h1, h2, h3⟩ := ih k hk gk
      exact ⟨j, by omega, h2, h3⟩
    · refine ⟨n, Nat.le_refl _, h, fun k hk => ?_⟩
      cases e : g k with
      | false => rfl
      | true => exact absurd ⟨k, hk, e⟩ q
theorem at_last {α : Type} {xs : List α} {x : α} (h : xs[xs.length - 1]? = some x) : atI xs (-1) = some x := by
  have hp : 1 ≤ xs.length := by
    have := (List.getElem?_eq_some_iff.mp h).1
    omega
  unfold atI ixN
  rw [if_neg (by omega), if_pos (by omega)]
  have e : ((-1 : Int) + (xs.length : Int)).toNat = xs.length - 1 := by omega
  rw [e]
  exact h
theorem find_at {α : Type} {p : α → Bool} : ∀ {xs : List α} {j : Nat} {x : α}, xs[j]? = some x → p x = true → (∀ k y, k < j → xs[k]? = some y → p y = false) → xs.find? p = some x
  | [], _, _, h, _, _ => by simp at h
  | a :: xs, 0, x, h, hp, _ => by
    have e : a = x := Option.some.inj h
    rw [e, List.find?_cons_of_pos hp]
  | a :: xs, j + 1, x, h, hp, hn => by
    have ha := hn 0 a (by omega) rfl
    rw [List.find?_cons_of_neg (by rw [ha]; exact Bool.false_ne_true)]
    exact find_at (xs := xs) (j := j) h hp fun k y hk hy => hn (k + 1) y (by omega) hy
theorem str_ext {x y : Str} (h : cs x = cs y) : x = y := by
  obtain ⟨a⟩ := x
  obtain ⟨b⟩ := y
  have h' : a.toList = b.toList := h
  rw [Array.toList_inj.mp h']
theorem jn_cons (a b : Str) (r : List Str) : jn (a :: b :: r) = a ++ sp1 ++ jn (b :: r) := by
  unfold jn
  rw [join_eq, join_eq]
  rfl
def sSell2 : Str := "sell "
def sAt2 : Str := " at "
def sIf2 : Str := "if "
theorem sell_txt (x n : Str) : sSell2 ++ x ++ sAt2 ++ n = jn [sSell, x, sAt, n] := by
  rw [jn_cons, jn_cons, jn_cons, jn_one]
  apply str_ext
  simp only [cs_app, List.append_assoc]
  have e1 : cs sSell2 = cs sSell ++ cs sp1 := by decide +kernel
  have e2 : cs sAt2 = cs sp1 ++ (cs sAt ++ cs sp1) := by decide +kernel
  rw [e1, e2]
  simp only [List.append_assoc]
theorem if_txt (c : Cond) (t : Str) : sIf2 ++ jn [c.p.txt, c.sg, c.q.txt] ++ sColon ++ t = c.txt ++ sColon ++ t := by
  unfold Cond.txt Cond.ws
  rw [jn_cons sIf c.p.txt]
  apply str_ext
  simp only [cs_app, List.append_assoc]
  have e1 : cs sIf2 = cs sIf ++ cs sp1 := by decide +kernel
  rw [e1]
  simp only [List.append_assoc]
section
variable {K : KX} {S : List Addr} {G : List Sl}
theorem tup2_len (a b : Str) : (tupleText [a, b]).length = a.length + b.length + 4 := by
  have e : tupleText [a, b] = Str.ofString "(" ++ (a ++ Str.ofString ", " ++ b) ++ Str.ofString ")" := rfl
  have e1 : (Str.ofString "(").length = 1 := by decide
  have e2 : (Str.ofString ", ").length = 2 := by decide
  have e3 : (Str.ofString ")").length = 1 := by decide
  rw [e, Str.length_append, Str.length_append, Str.length_append, Str.length_append, e1, e2, e3]
  omega
theorem eg_lcAny {wi : TI} {te : TE} {i : Nat} {ds : List Dt} {p : Dt → Prop} (hi : G[i]? = some .un) (hw : Wk K S G wi (· = ds)) (hl : ds.length ≤ 10000) (he : ∀ d ∈ ds, Eg K S (G.set i (.da d)) te p) : Eg K S G (tLc wi (gName i) tYes te [i]) (fun d => ∃ es, d = .lst es ∧ es.length = ds.length ∧ ∀ e ∈ es, p e) := by
  refine eg_lc (Rel := fun d o => ∃ e, o = some e ∧ p e) (fun j hj s e => ?_) hw fun ds' e => ?_
  · have : j = i := by simpa using hj
    subst this
    rw [hi] at e
    exact (Option.some.inj e).symm
  · subst e
    refine ⟨hl, fun es h => ⟨es, rfl, ?_⟩, fun d hd => ⟨_, (· = true), gg_name hi rfl (by simp), fun B O σ H hh Q k => k true H rfl hh (Gr.refl _ _), fun z => (Bool.false_ne_true z).elim, fun _ => ?_, fun B O H σ hh => hh.drop hi⟩⟩
    · clear he hl hw
      induction h with
      | nil => exact ⟨rfl, fun e he => by cases he⟩
      | skip _ r ih =>
        obtain ⟨e, z, _⟩ := r
        cases z
      | add _ r ih =>
        obtain ⟨e, z, hp⟩ := r
        refine ⟨by rw [List.length_append, List.length_append, ih.1]; rfl, fun e' he' => ?_⟩
        rcases List.mem_append.mp he' with q | q
        · exact ih.2 e' q
        · rw [List.mem_singleton] at q
          rw [q, Option.some.inj z]; exact hp
    · exact eg_imp (he d hd) fun e hp => ⟨e, rfl, hp⟩
theorem ints_of : ∀ {es : List Dt}, (∀ e ∈ es, ∃ b : Int, e = .int b ∧ 0 ≤ b) → ∃ bs : List Int, es = intsD bs ∧ ∀ b ∈ bs, 0 ≤ b
  | [], _ => ⟨[], rfl, fun b hb => by cases hb⟩
  | e :: es, h => by
    obtain ⟨b, rfl, hb⟩ := h e (by simp)
    obtain ⟨bs, rfl, hbs⟩ := ints_of (es := es) fun e he => h e (by simp [he])
    refine ⟨b :: bs, rfl, fun c hc => ?_⟩
    rcases List.mem_cons.mp hc with z | z
    · rw [z]; exact hb
    · exact hbs c z
end
def sideT : Dt → Str
  | .str x => x
  | .int i => Str.ofString (toString i)
  | _ => sKeep
theorem sideT_d (p : Pt) : sideT p.d = p.txt := by cases p <;> rfl
end Sb

set_option Elab.async false
set_option linter.all false
set_option maxRecDepth 100000
set_option autoImplicit false
namespace Sb
open PySem PySem.Spec PyProof.Rows L2 TL
abbrev s_is_line : Stmt := top 35
abbrev N_is_line : List Str := ["value"]
abbrev A_is_line : List Str := ["value"]
theorem sc_is_line : FnScope N_is_line A_is_line (defScope s_is_line) :=
  ⟨rfl, rfl, rfl, by decide +kernel, rfl, by decide +kernel, by decide +kernel⟩
abbrev s_term_of : Stmt := top 26
abbrev N_term_of : List Str := ["text", "names", "words", "many", "place", "parts", "word"]
abbrev A_term_of : List Str := ["text", "names"]
theorem sc_term_of : FnScope N_term_of A_term_of (defScope s_term_of) :=
  ⟨rfl, rfl, rfl, by decide +kernel, rfl, by decide +kernel, by decide +kernel⟩
/-! ### terms: the texts -/
def sHigh : Str := "high"
def sLow : Str := "low"
theorem w_high : Word sHigh := (decW _).mpr (by decide +kernel)
theorem w_low : Word sLow := (decW _).mpr (by decide +kernel)
structure Term where
  hi : Bool
  k : Nat
  ps : List Pt
def Term.ord (t : Term) : Str := if t.hi then sHigh else sLow
def Term.ws (t : Term) : List Str := t.ord :: num t.k :: t.ps.map Pt.txt
def Term.txt (t : Term) : Str := jn t.ws
def ptsD (ps : List Pt) : List Dt := ps.map Pt.d
def Term.d (t : Term) : Dt := .tup [.str t.ord, .int (t.k : Int), .tup (ptsD t.ps)]
structure Term.ok (ns : List Str) (t : Term) : Prop where
  k1 : 1 ≤ t.k
  kn : t.k ≤ t.ps.length
  n6 : t.ps.length ≤ 6
  ps : ∀ p ∈ t.ps, p.ok ns
theorem Term.words {ns : List Str} (hn : NamesOk ns) {t : Term} (h : t.ok ns) : ∀ x ∈ t.ws, Word x := fun x hx => by
  unfold Term.ws at hx
  rcases List.mem_cons.mp hx with e | hx
  · rw [e]
    unfold Term.ord
    cases t.hi
    · exact w_low
    · exact w_high
  rcases List.mem_cons.mp hx with e | hx
  · rw [e]
    have := h.kn
    have := h.n6
    exact word_num (by omega)
  · obtain ⟨p, hp, rfl⟩ := List.mem_map.mp hx
    exact Pt.word hn (h.ps p hp)
theorem ws_len (t : Term) : t.ws.length = t.ps.length + 2 := by unfold Term.ws; rw [List.length_cons, List.length_cons, List.length_map]
theorem ptsD_len (ps : List Pt) : (ptsD ps).length = ps.length := by unfold ptsD; rw [List.length_map]
theorem drop2 {a b : Dt} {r : List Dt} : cutD (a :: b :: r) (some 2) none = r := by
  unfold cutD
  have e1 : HT.sIx (a :: b :: r).length 0 (some 2) = 2 := by
    have := HT.sIx_nat (a :: b :: r).length 0 2
    rw [show (some ((2 : Nat) : Int)) = some (2 : Int) from rfl] at this
    rw [this, List.length_cons, List.length_cons]
    omega
  rw [e1, HT.sIx_none]
  show r.take ((a :: b :: r).length - 2) = r
  rw [List.length_cons, List.length_cons, show r.length + 1 + 1 - 2 = r.length by omega, List.take_length]
theorem txt_inj {ns : List Str} (hn : NamesOk ns) {p q : Pt} (hp : p.ok ns) (hq : q.ok ns) (e : p.txt = q.txt) : p.d = q.d := by
  cases p with
  | nm x =>
    cases q with
    | nm y => rw [show x = y from e]
    | nu n => exact absurd (show num n = x from e.symm) (num_not_name (hn x hp))
  | nu n =>
    cases q with
    | nm y => exact absurd (show num n = y from e) (num_not_name (hn y hq))
    | nu m =>
      have h1 := num_int (n := n) hp
      have h2 := num_int (n := m) hq
      rw [show num n = num m from e, h2] at h1
      show Dt.int (n : Int) = Dt.int (m : Int)
      rw [Option.some.inj h1]
open Classical in
theorem ed_lcG {K : KX} {S : List Addr} {G : List Sl} {al : Type} {wi : TI} {te : TE} {i : Nat} {xs : List al} {g h : al → Dt} (hi : G[i]? = some .un) (hw : Wk K S G wi (· = xs.map g)) (hl : xs.length ≤ 10000) (hj : ∀ x ∈ xs, ∀ y ∈ xs, g x = g y → h x = h y)
    (he : ∀ x ∈ xs, Eg K S (G.set i (.da (g x))) te (· = h x)) : Eg K S G (tLc wi (gName i) tYes te [i]) (· = .lst (xs.map h)) := by
  let f : Dt → Dt := fun d => if q : ∃ x, x ∈ xs ∧ g x = d then h q.choose else .non
  have hf : ∀ x ∈ xs, f (g x) = h x := fun x hx => by
    have q : ∃ y, y ∈ xs ∧ g y = g x := ⟨x, hx, rfl⟩
    show (if q : ∃ y, y ∈ xs ∧ g y = g x then h q.choose else .non) = h x
    rw [dif_pos q]
    exact hj _ q.choose_spec.1 _ hx q.choose_spec.2
  refine eg_eq (ed_lcMap (f := f) hi hw (by rw [List.length_map]; exact hl) fun d hd => ?_) ?_
  · obtain ⟨x, hx, rfl⟩ := List.mem_map.mp hd
    exact eg_eq (he x hx) (hf x hx).symm
  · rw [List.map_map]
    exact congrArg Dt.lst (List.map_congr_left fun x hx => hf x hx)
section
variable {P : Program} {w : World} {K : KX} {mg : Str → Option Value} {base : Heap} {aS aO : Addr}
theorem Bf.orders (B : Bf K mg aS aO) (H : Hp) : Dn K H (.tup (strsD [sHigh, sLow])) (.ref aO) := ⟨aO, _, rfl, B.t_ORDERS H, _, _, rfl, rfl, _, _, rfl, rfl, rfl⟩
structure TermIn where
  t : Term
  ns : List Str
def TermIn.ok (a : TermIn) : Prop := a.t.ok a.ns ∧ NamesOk a.ns ∧ a.ns.length ≤ 100
theorem non_in : ∀ ps : List Pt, ∃ us : List V, (ptsD ps).map Dt.v? = us.map some ∧ us.all flatV = true ∧ inV .non us = false
  | [] => ⟨[], rfl, rfl, rfl⟩
  | p :: ps => by
    obtain ⟨us, h1, h2, h3⟩ := non_in ps
    have e : ptsD (p :: ps) = p.d :: ptsD ps := rfl
    cases p with
    | nm x => exact ⟨.str x :: us, by rw [e, List.map_cons, h1]; rfl, by rw [List.all_cons, h2]; rfl, by unfold inV at h3 ⊢; rw [List.any_cons, h3]; rfl⟩
    | nu n => exact ⟨.int (n : Int) :: us, by rw [e, List.map_cons, h1]; rfl, by rw [List.all_cons, h2]; rfl, by unfold inV at h3 ⊢; rw [List.any_cons, h3]; rfl⟩
abbrev sp_term_of (K : KX) : Sp := spX K (fun a : TermIn => [Dt.str a.t.txt, .lst (strsD a.ns)]) TermIn.ok (fun a e => e = a.t.d)
theorem ok_term_of {f : Addr} {fd : FuncData} (F : Fun K "term_of" "term_of" s_term_of f fd) (B : Bf K mg aS aO) (c_part_of : Cal P w K mg base 2 "part_of" (sp_part_of K)) (c_place_of : Cal P w K mg base 1 "place_of" (sp_place_of K)) :
    FnOk P w K mg base CX0 3 f fd A_term_of (sp_term_of K) := by
  refine fn_x F sc_term_of (fun _ => rfl) fun cdv A outer s H E hr => ⟨_, (pss_cons (ps_set (i := 2) sc_term_of.nd rfl (Or.inl rfl) (pe_split (pv 0) pe_str)) (pss_cons (ps_set (i := 3) sc_term_of.nd rfl (Or.inl rfl) (pe_op op_sub (pe_callB (call_lenK (K := K)) (by rfl) B.n_len (by decide +kernel) (pa_cons (pv 2) pa_nil)) pe_int)) (pss_cons (ps_if ((pw_or (pt_cmpR (op_niK (K := K)) (pe_ix (ix_anyK (K := K)) (pv 2) pe_int (fun _ _ => rfl)) (pe_gc (by rfl) B.g_ORDERS) rfl) (pw_or1 (pt_not (pt_chain op_le op_le pe_int (pv 3) (pe_gc (by rfl) B.g_MOST_PARTS)))))).pt (pss_one (ps_ret pe_non)) pss_nil) (pss_cons (ps_set (i := 4) sc_term_of.nd rfl (Or.inl rfl) (pe_c c_place_of hr (by decide) (by rfl) (pa_cons (pe_ix (ix_anyK (K := K)) (pv 2) pe_int (fun _ _ => rfl)) (pa_cons (pv 3) pa_nil)))) (pss_cons (ps_setLc (i := 5) (own := [("word", 6)]) (g := gName 6) (by rfl) sc_term_of.nd rfl rfl (sw_true rfl rfl rfl (by decide +kernel)) (pi_anyK (K := K) (pe_slice (sl_anyK (K := K)) (pv 2) (po_some pe_int) po_none)) (blkOk_by (own := [("word", 6)]) (N := N_term_of) (sc := defScope s_term_of) (by decide +kernel)) (fun _ _ _ _ _ => (pg_name (i := 6) sc_term_of.nd rfl (Or.inl rfl))) (fun _ _ _ _ _ => pts_nil) (fun _ _ _ _ _ => (pe_c c_part_of hr (by decide) (by rfl) (pa_cons (pv 6) (pa_cons (pv 1) pa_nil))))) (pss_cons (ps_if ((pw_or (pt_cmpR op_isN1 (pv 4) pe_non (nomark _)) (pw_or1 (pt_cmpR (op_inK (K := K)) pe_non (pv 5) rfl)))).pt (pss_one (ps_ret pe_non)) pss_nil) (pss_one (ps_ret (pe_tup (pa_cons (pe_ix (ix_anyK (K := K)) (pv 2) pe_int (fun _ _ => rfl)) (pa_cons (pv 4) (pa_cons (pe_callTy (call_tupK (K := K)) (by rfl) B.n_tuple (by decide +kernel) (pa_cons (pv 5) pa_nil)) pa_nil)))))))))))), fun a ha => ?_⟩
  obtain ⟨t, ns⟩ := a
  obtain ⟨h1, h2, h3⟩ := ha
  have h1 : t.ok ns := h1
  have h3 : ns.length ≤ 100 := h3
  have k1 := h1.k1
  have kn := h1.kn
  have n6 := h1.n6
  have hw : ∀ x ∈ t.ws, Word x := Term.words h2 h1
  have hl : t.txt.length ≤ 21 * t.ws.length := jn_len hw
  rw [ws_len] at hl
  have hsp : Txt.split t.txt sp1 = t.ws := split_jn (by simp [Term.ws]) hw
  have hord : t.ord = sHigh ∨ t.ord = sLow := by
    unfold Term.ord
    cases t.hi
    · exact .inr rfl
    · exact .inl rfl
  have hin : t.ord ∈ [sHigh, sLow] := by
    rcases hord with e | e <;> rw [e] <;> simp
  have hwl : (strsD t.ws).length = t.ps.length + 2 := by rw [strsD_len, ws_len]
  refine q_set (d := .lst (strsD t.ws)) (eg_m1 (x := t.txt) (y := .str sp1) (eg_var rfl) eg_str (rm_split rfl (by omega) (by rw [hsp]))) ?_
  refine q_set (d := .int (t.ps.length : Int)) (eg_eq (ed_sub (ed_cb (ea_1 (eg_var rfl)) (rc_len (n := t.ps.length + 2) (d := .lst (strsD t.ws)) (by show some _ = some _; rw [hwl]) (by omega) rfl)) eg_int) (by rw [show ((t.ps.length + 2 : Nat) : Int) - 2 = (t.ps.length : Int) by omega])) ?_
  refine q_no (et_eq (et_or1 (a := false) (et_eq (et_tst1 (ed_niS (ys := [sHigh, sLow]) true (ed_ixL (ds := strsD t.ws) (d := .str t.ord) (eg_var rfl) eg_int at0) (eg_c fun H => B.orders H))) (by rw [decide_eq_true hin]; rfl)) fun _ => et_not1 (a := true) (et_eq (et_chain (i := 1) (j := (t.ps.length : Int)) (l := 6) eg_int (eg_var rfl) eg_int) (by rw [decide_eq_true (by omega), decide_eq_true (by omega)]; rfl))) rfl) ?_
  refine q_set (d := .int (t.k : Int)) (ed_callX (out := fun a : Nat × Nat => Dt.int (a.1 : Int)) (t.k, t.ps.length) (ea_2 (ed_ixL (ds := strsD t.ws) (d := .str (num t.k)) (eg_var rfl) eg_int at1) (eg_var rfl)) ⟨k1, kn, by show t.ps.length ≤ 9; omega⟩) ?_
  have hstr : strsD t.ws = .str t.ord :: .str (num t.k) :: (t.ps.map fun p => Dt.str p.txt) := by
    unfold strsD Term.ws
    rw [List.map_cons, List.map_cons, List.map_map]
    rfl
  refine q_set (d := .lst (ptsD t.ps)) (ed_lcG (xs := t.ps) (g := fun p => Dt.str p.txt) (h := Pt.d) rfl (wk_any1 (d := .lst (t.ps.map fun p => Dt.str p.txt)) (eg_eq (eg_slL (eg_var rfl) (eo_some eg_int) eo_none) (by rw [hstr, drop2])) rfl) (by omega) (fun p hp q hq e => txt_inj h2 (h1.ps p hp) (h1.ps q hq) (by injection e))
    fun p hp => ed_callX (out := fun a : PtIn => a.p.d) ⟨p, ns⟩ (ea_2 (eg_var rfl) (eg_var rfl)) ⟨h1.ps p hp, h2, h3⟩) ?_
  obtain ⟨us, u1, u2, u3⟩ := non_in t.ps
  refine q_no (et_eq (et_or1 (a := false) (et_tst1 (ed_isN (x := .int (t.k : Int)) (eg_var rfl))) fun _ => et_tst1 (ed_op (z := .bl false) eg_non (eg_var rfl) (r2_inA (x := .non) (ds := ptsD t.ps) false rfl u1 rfl u2 (by rw [u3])))) rfl) ?_
  exact run_ret (ed_tup (ea_3 (ed_ixL (ds := strsD t.ws) (d := .str t.ord) (eg_var rfl) eg_int at0) (eg_var rfl) (ed_cb (ea_1 (eg_var rfl)) (rc_tupL rfl))))
end
end Sb

set_option Elab.async false
set_option linter.all false
set_option maxRecDepth 100000
set_option autoImplicit false
namespace Sb
open PySem PySem.Spec PyProof.Rows L2 TL
/-! ### lines -/
structure Ln where
  n : Str
  t : Term
def lnS (ls : List Ln) : List (Str × Str) := ls.map fun l => (l.n, l.t.txt)
def nmL (ls : List Ln) : List Str := ls.map Ln.n
structure LinesOk (seats : List Str) (ls : List Ln) : Prop where
  n8 : ls.length ≤ 8
  ok : NamesOk (nmL ls)
  nd : (seats ++ nmL ls).Nodup
  tm : ∀ (i : Nat) (l : Ln), ls[i]? = some l → l.t.ok (seats ++ (nmL ls).take i)
theorem lnD_len (ls : List (Str × Str)) : (lnD ls).length = ls.length := by unfold lnD; rw [List.length_map]
theorem lnS_len (ls : List Ln) : (lnS ls).length = ls.length := by unfold lnS; rw [List.length_map]
theorem lnS_nm (ls : List Ln) (k : Nat) : ((lnS ls).take k).map (·.1) = (nmL ls).take k := by
  unfold lnS nmL
  rw [← List.map_take, List.map_map, ← List.map_take]
  rfl
theorem lnD_take (ls : List (Str × Str)) (k : Nat) : (lnD ls).take k = lnD (ls.take k) := by unfold lnD; rw [List.map_take]
theorem enumL_get {ls : List Ln} {i : Nat} {d : Dt} (h : (enumD (lnD (lnS ls)))[i]? = some d) : ∃ l, ls[i]? = some l ∧ d = .tup [.int (i : Int), .tup [.str l.n, .str l.t.txt]] := by
  obtain ⟨e, h1, rfl⟩ := enumD_get h
  unfold lnD lnS at h1
  rw [List.getElem?_map, List.getElem?_map] at h1
  cases q : ls[i]? with
  | none => rw [q] at h1; cases h1
  | some l => rw [q] at h1; exact ⟨l, rfl, by rw [← Option.some.inj h1]⟩
section
variable {P : Program} {w : World} {K : KX} {mg : Str → Option Value} {base : Heap} {aS aO : Addr}
abbrev sp_is_line (K : KX) : Sp := spX K (fun l : Str × Str => [Dt.tup [.str l.1, .str l.2]]) (fun l => NameOk l.1) (fun _ e => e = .bl true)
theorem ok_is_line {f : Addr} {fd : FuncData} (F : Fun K "is_line" "is_line" s_is_line f fd) (B : Bf K mg aS aO) (c_is_name : Cal P w K mg base 1 "is_name" (sp_is_name K)) : FnOk P w K mg base CX0 2 f fd A_is_line (sp_is_line K) := by
  refine fn_x F sc_is_line (fun _ => rfl) fun cdv A outer s H E hr => ⟨_, (pss_one (ps_ret (pe_and (pe_callB (call_isiQ (K := K)) (by rfl) B.n_isinstance (by decide +kernel) (pa_cons (pv 0) (pa_cons (pe_bltn (v := .ty "tuple") (by rfl) B.n_tuple (by decide +kernel) rfl) pa_nil))) (pe_and (pe_cmpR (op_eqK (K := K) hr.units) (pe_callB (call_lenK (K := K)) (by rfl) B.n_len (by decide +kernel) (pa_cons (pv 0) pa_nil)) pe_int (nomark _)) (pe_and (pe_c c_is_name hr (by decide) (by rfl) (pa_cons (pe_ix (ix_anyK (K := K)) (pv 0) pe_int (fun _ _ => rfl)) pa_nil)) (pe_one (pe_callB (call_isiQ (K := K)) (by rfl) B.n_isinstance (by decide +kernel) (pa_cons (pe_ix (ix_anyK (K := K)) (pv 0) pe_int (fun _ _ => rfl)) (pa_cons (pe_bltn (v := .ty "str") (by rfl) B.n_str (by decide +kernel) rfl) pa_nil))))))))), fun a ha => ?_⟩
  obtain ⟨x, y⟩ := a
  have hx : NameOk x := ha
  exact run_ret (eg_eq (eg_andV (eg_isi (b := true) (d := .tup [.str x, .str y]) (eg_var rfl) rfl (by decide +kernel)) fun _ => eg_andV (ed_eqI (i := 2) (ed_cb (ea_1 (eg_var rfl)) (rc_len (n := 2) (d := .tup [.str x, .str y]) rfl (by decide) rfl)) eg_int) fun _ => eg_andV (b := true) (ed_callX (out := fun _ : Str => Dt.bl true) x (ea_1 (ed_ixT (ds := [.str x, .str y]) (eg_var rfl) eg_int at0)) hx) fun _ => eg_isi (b := true) (d := .str y) (ed_ixT (ds := [.str x, .str y]) (eg_var rfl) eg_int at1) rfl (by decide +kernel)) (by rfl))
structure LnIn where
  ls : List Ln
  seats : List Str
def LnIn.ok (a : LnIn) : Prop := SeatsOk a.seats ∧ LinesOk a.seats a.ls
abbrev sp_check_linesG (K : KX) : Sp := spX K (fun a : LnIn => [Dt.tup (lnD (lnS a.ls)), .tup (strsD a.seats)]) LnIn.ok (fun _ e => e = .non)
theorem not_above {seats : List Str} {ls : List Ln} (h : LinesOk seats ls) {i : Nat} {l : Ln} (e : ls[i]? = some l) : l.n ∉ seats ++ (nmL ls).take i := fun z => by
  have e' : (nmL ls)[i]? = some l.n := by unfold nmL; rw [List.getElem?_map, e]; rfl
  obtain ⟨n1, n2, n3⟩ := List.nodup_append.mp h.nd
  rcases List.mem_append.mp z with q | q
  · exact n3 l.n q l.n (List.mem_of_getElem? e') rfl
  · exact nodup_take n2 e' q
theorem ok_check_linesG {f : Addr} {fd : FuncData} (F : Fun K "check_lines" "check_lines" s_check_lines f fd) (B : Bf K mg aS aO) (c_is_line : Cal P w K mg base 2 "is_line" (sp_is_line K)) (c_names_of : Cal P w K mg base 1 "names_of" (sp_names_of K)) :
    FnOk P w K mg base CX0 3 f fd A_check_lines (sp_check_linesG K) := by
  refine fn_x F sc_check_lines (fun _ => rfl) fun cdv A outer s H E hr => ⟨_, (pss_cons (ps_if (pt_not (pt_val (pe_callB (call_isiQ (K := K)) (by rfl) B.n_isinstance (by decide +kernel) (pa_cons (pv 0) (pa_cons (pe_bltn (v := .ty "tuple") (by rfl) B.n_tuple (by decide +kernel) rfl) pa_nil))))) (pss_one ps_never) pss_nil) (pss_one (ps_for PassesOwn.never rfl (pi_enT rfl B.n_enumerate (pa_cons (pv 0) pa_nil)) (pg_tup rfl (pgs_cons (pg_name (i := 2) sc_check_lines.nd rfl (Or.inl rfl)) (pgs_cons (pg_name (i := 3) sc_check_lines.nd rfl (Or.inl rfl)) pgs_nil))) (pss_one (ps_if ((pw_or (pt_cmpR (op_eqK (K := K) hr.units) (pv 2) (pe_gc (by rfl) B.g_MOST_LINES) (nomark _)) (pw_or (pt_not (pt_val (pe_c c_is_line hr (by decide) (by rfl) (pa_cons (pv 3) pa_nil)))) (pw_or1 (pt_cmpR (op_inK (K := K)) (pe_ix (ix_anyK (K := K)) (pv 3) pe_int (fun _ _ => rfl)) (pe_c c_names_of hr (by decide) (by rfl) (pa_cons (pv 1) (pa_cons (pe_slice (sl_anyK (K := K)) (pv 0) po_none (po_some (pv 2))) pa_nil))) rfl))))).pt (pss_one ps_never) pss_nil))))), fun a ha => ?_⟩
  obtain ⟨ls, seats⟩ := a
  have h1 : SeatsOk seats := ha.1
  have h2 : LinesOk seats ls := ha.2
  have n8 := h2.n8
  have n4 := h1.n4
  refine q_no (et_eq (et_not1 (a := true) (et_B1 (eg_isi (d := .tup (lnD (lnS ls))) (eg_var rfl) rfl (by decide +kernel)))) rfl) ?_
  refine run_forD (fun i G => ∃ s t, G = [.da (.tup (lnD (lnS ls))), .da (.tup (strsD seats)), s, t] ∧ s.ad = none ∧ t.ad = none) (wk_enT (ds := lnD (lnS ls)) (ea_1 (eg_var rfl))) ⟨_, _, rfl, rfl, rfl⟩ (fun i d G1 hd hI => ?_) fun G1 _ => rfl
  obtain ⟨s, t, rfl, hs, ht⟩ := hI
  obtain ⟨l, hl, rfl⟩ := enumL_get hd
  have hlt : i < ls.length := (List.getElem?_eq_some_iff.mp hl).1
  have hnm : NameOk l.n := h2.ok l.n (by unfold nmL; exact List.mem_map_of_mem (List.mem_of_getElem? hl))
  refine ⟨[2, 3], _, gg_two rfl hs rfl ht (by decide) (by simp) (by simp), l_no (et_eq (et_or1 (a := false) (et_eq (et_tst1 (ed_eqI (eg_var rfl) (eg_int (i := 8)))) (decide_eq_false (by omega))) fun _ => et_or1 (a := false) (b := false) (et_not1 (a := true) (et_B1 (ed_callX (out := fun _ : Str × Str => Dt.bl true) (l.n, l.t.txt) (ea_1 (eg_var rfl)) hnm))) fun _ =>
    et_eq (et_tst1 (ed_inS (ys := seats ++ (nmL ls).take i) false (ed_ixT (ds := [.str l.n, .str l.t.txt]) (eg_var rfl) eg_int at0) (eg_eq (ed_callX (out := fun a : NamesIn => Dt.lst (strsD (a.seats ++ a.lines.map (·.1)))) ⟨seats, (lnS ls).take i⟩ (ea_2 (eg_var rfl) (eg_eq (eg_takeT (eg_var rfl) (eg_var rfl) (by rw [lnD_len, lnS_len]; exact hlt)) (by rw [lnD_take]))) ⟨by show seats.length ≤ 100; omega, by show ((lnS ls).take i).length ≤ 100; rw [List.length_take, lnS_len]; omega⟩) (by rw [lnS_nm]; rfl)))) (decide_eq_false (not_above h2 hl))) rfl) ⟨_, _, rfl, rfl, rfl⟩⟩
/-! ### the terms read -/
def tmD (ls : List Ln) : List Dt := ls.map fun l => l.t.d
abbrev sp_read_termsG (K : KX) : Sp := spX K (fun a : LnIn => [Dt.tup (lnD (lnS a.ls)), .tup (strsD a.seats)]) LnIn.ok (fun a e => e = .tup (tmD a.ls))
theorem ok_read_termsG {f : Addr} {fd : FuncData} (F : Fun K "read_terms" "read_terms" s_read_terms f fd) (B : Bf K mg aS aO) (c_term_of : Cal P w K mg base 3 "term_of" (sp_term_of K)) (c_names_of : Cal P w K mg base 1 "names_of" (sp_names_of K)) :
    FnOk P w K mg base CX0 4 f fd A_read_terms (sp_read_termsG K) := by
  refine fn_x F sc_read_terms (fun _ => rfl) fun cdv A outer s H E hr => ⟨_, (pss_cons (ps_set (i := 2) sc_read_terms.nd rfl (Or.inl rfl) (pe_lst pa_nil)) (pss_cons (ps_for PassesOwn.never rfl (pi_enT rfl B.n_enumerate (pa_cons (pv 0) pa_nil)) (pg_tup rfl (pgs_cons (pg_name (i := 3) sc_read_terms.nd rfl (Or.inl rfl)) (pgs_cons (pg_name (i := 4) sc_read_terms.nd rfl (Or.inl rfl)) pgs_nil))) (pss_cons (ps_set (i := 5) sc_read_terms.nd rfl (Or.inl rfl) (pe_c c_term_of hr (by decide) (by rfl) (pa_cons (pe_ix (ix_anyK (K := K)) (pv 4) pe_int (fun _ _ => rfl)) (pa_cons (pe_c c_names_of hr (by decide) (by rfl) (pa_cons (pv 1) (pa_cons (pe_slice (sl_anyK (K := K)) (pv 0) po_none (po_some (pv 3))) pa_nil))) pa_nil)))) (pss_cons (ps_if (pt_cmpR op_isN1 (pv 5) pe_non (nomark _)) (pss_one ps_never) pss_nil) (pss_one (ps_expr (pe_bm PySem.F.plainAttrs_list PySem.F.slot_list_append PySem.F.type_list_append mt_append (pv 2) (pa_cons (pv 5) pa_nil))))))) (pss_one (ps_ret (pe_callTy (call_tupK (K := K)) (by rfl) B.n_tuple (by decide +kernel) (pa_cons (pv 2) pa_nil)))))), fun a ha => ?_⟩
  obtain ⟨ls, seats⟩ := a
  have h1 : SeatsOk seats := ha.1
  have h2 : LinesOk seats ls := ha.2
  have n8 := h2.n8
  have n4 := h1.n4
  refine q_own fun p => ?_
  refine run_seq (N1 := fun G => ∃ s t u, G = [.da (.tup (lnD (lnS ls))), .da (.tup (strsD seats)), .ow p (tmD ls), s, t, u])
    (run_forD (fun i G => ∃ s t u, G = [.da (.tup (lnD (lnS ls))), .da (.tup (strsD seats)), .ow p (tmD (ls.take i)), s, t, u] ∧ s.ad = none ∧ t.ad = none ∧ u.ad = none) (wk_enT (ds := lnD (lnS ls)) (ea_1 (eg_var rfl))) ⟨_, _, _, rfl, rfl, rfl, rfl⟩ (fun i d G1 hd hI => ?_) fun G1 hI => ?_) fun G1 hI => ?_
  · obtain ⟨s, t, u, rfl, hs, ht, hu⟩ := hI
    obtain ⟨l, hl, rfl⟩ := enumL_get hd
    have hlt : i < ls.length := (List.getElem?_eq_some_iff.mp hl).1
    refine ⟨[3, 4], _, gg_two rfl hs rfl ht (by decide) (by simp) (by simp), ?_⟩
    have hns : NamesOk (seats ++ (nmL ls).take i) := fun x hx => by
      rcases List.mem_append.mp hx with z | z
      · exact h1.ok x z
      · exact h2.ok x (List.mem_of_mem_take z)
    have hnl : (seats ++ (nmL ls).take i).length ≤ 100 := by
      rw [List.length_append, List.length_take]
      unfold nmL
      rw [List.length_map]
      omega
    refine q_set (s := u) (d := l.t.d) (ed_callX (out := fun a : TermIn => a.t.d) ⟨l.t, seats ++ (nmL ls).take i⟩ (ea_2 (ed_ixT (ds := [.str l.n, .str l.t.txt]) (eg_var rfl) eg_int at1) (eg_eq (ed_callX (out := fun a : NamesIn => Dt.lst (strsD (a.seats ++ a.lines.map (·.1)))) ⟨seats, (lnS ls).take i⟩ (ea_2 (eg_var rfl) (eg_eq (eg_takeT (eg_var rfl) (eg_var rfl) (by rw [lnD_len, lnS_len]; exact hlt)) (by rw [lnD_take]))) ⟨by show seats.length ≤ 100; omega, by show ((lnS ls).take i).length ≤ 100; rw [List.length_take, lnS_len]; omega⟩) (by rw [lnS_nm]))) ⟨h2.tm i l hl, hns, hnl⟩) ?_ rfl hu
    refine q_no (et_tst1 (ed_isN (x := l.t.d) (eg_var rfl))) ?_
    refine run_app (p := p) (ds := tmD (ls.take i)) (q := (· = l.t.d)) rfl (eg_var rfl) (by unfold tmD; rw [List.length_map, List.length_take]; omega) fun d e => ?_
    subst e
    refine ⟨.da (.int (i : Int)), .da (.tup [.str l.n, .str l.t.txt]), .da l.t.d, ?_, rfl, rfl, rfl⟩
    have et : tmD (ls.take (i + 1)) = tmD (ls.take i) ++ [l.t.d] := by
      unfold tmD
      rw [List.take_add_one, hl, List.map_append]
      rfl
    rw [et]
    rfl
  · obtain ⟨s, t, u, rfl, _⟩ := hI
    rw [enumD_len, lnD_len, lnS_len, List.take_length]
    exact ⟨s, t, u, rfl⟩
  · obtain ⟨s, t, u, rfl⟩ := hI
    exact run_ret (eg_tupO (p := p) rfl)
end
end Sb

set_option Elab.async false
set_option linter.all false
set_option maxRecDepth 100000
set_option autoImplicit false
namespace Sb
open PySem PySem.Spec PyProof.Rows L2 TL
abbrev s_term_worth : Stmt := top 42
abbrev N_term_worth : List Str := ["term", "worths", "ascending", "order", "place", "parts", "part"]
abbrev A_term_worth : List Str := ["term", "worths"]
theorem sc_term_worth : FnScope N_term_worth A_term_worth (defScope s_term_worth) :=
  ⟨rfl, rfl, rfl, by decide +kernel, rfl, by decide +kernel, by decide +kernel⟩
/-! ### the value of a term -/
def Term.vals (ws : List (Str × Int)) (t : Term) : List Int := t.ps.map (Pt.val ws)
def Term.val (ws : List (Str × Int)) (t : Term) : Int := (srt (t.vals ws)).getD (if t.hi then t.ps.length - t.k else t.k - 1) 0
structure TwIn where
  t : Term
  ws : List (Str × Int)
structure TwIn.ok (a : TwIn) : Prop where
  k1 : 1 ≤ a.t.k
  kn : a.t.k ≤ a.t.ps.length
  n6 : a.t.ps.length ≤ 6
  has : ∀ p ∈ a.t.ps, p.has a.ws
section
variable {P : Program} {w : World} {K : KX} {mg : Str → Option Value} {base : Heap} {aS aO : Addr}
abbrev sp_term_worth (K : KX) : Sp := spX K (fun a : TwIn => [a.t.d, .dic (wsD a.ws)]) TwIn.ok (fun a e => e = .int (a.t.val a.ws))
theorem ok_term_worth {f : Addr} {fd : FuncData} (F : Fun K "term_worth" "term_worth" s_term_worth f fd) (B : Bf K mg aS aO) (n_sorted : mg "sorted" = none) (c_part_worth : Cal P w K mg base 2 "part_worth" (sp_part_worth K)) :
    FnOk P w K mg base CX0 3 f fd A_term_worth (sp_term_worth K) := by
  refine fn_x F sc_term_worth (fun _ => rfl) fun cdv A outer s H E hr => ⟨_, (pss_cons (ps_asg (pv 0) (pg_tup rfl (pgs_cons (pg_name (i := 3) sc_term_worth.nd rfl (Or.inl rfl)) (pgs_cons (pg_name (i := 4) sc_term_worth.nd rfl (Or.inl rfl)) (pgs_cons (pg_name (i := 5) sc_term_worth.nd rfl (Or.inl rfl)) pgs_nil))))) (pss_cons (ps_set (i := 2) sc_term_worth.nd rfl (Or.inl rfl) (pe_callB (cr_sortedK (K := K)) (by rfl) n_sorted (by decide +kernel) (pa_cons (pe_lc (own := [("part", 6)]) (g := gName 6) (by rfl) sc_term_worth.nd (pi_anyK (K := K) (pv 5)) (blkOk_by (own := [("part", 6)]) (N := N_term_worth) (sc := defScope s_term_worth) (by decide +kernel)) (fun _ _ _ _ _ => (pg_name (i := 6) sc_term_worth.nd rfl (Or.inl rfl))) (fun _ _ _ _ _ => pts_nil) (fun _ _ _ _ _ => (pe_c c_part_worth hr (by decide) (by rfl) (pa_cons (pv 6) (pa_cons (pv 1) pa_nil))))) pa_nil))) (pss_one (ps_ret (pe_ifExp (pt_cmpR (op_eqK (K := K) hr.units) (pv 3) pe_str (nomark _)) (pe_ix (ix_anyK (K := K)) (pv 2) (pe_un un_neg (pv 4)) (fun _ _ => rfl)) (pe_ix (ix_anyK (K := K)) (pv 2) (pe_op op_sub (pv 4) pe_int) (fun _ _ => rfl))))))), fun a ha => ?_⟩
  obtain ⟨t, ws⟩ := a
  have k1 : 1 ≤ t.k := ha.k1
  have kn : t.k ≤ t.ps.length := ha.kn
  have n6 : t.ps.length ≤ 6 := ha.n6
  have hh : ∀ p ∈ t.ps, p.has ws := ha.has
  have hvl : (t.vals ws).length = t.ps.length := by unfold Term.vals; rw [List.length_map]
  have hsl : (srt (t.vals ws)).length = t.ps.length := by rw [srt_len, hvl]
  refine run_seq (N1 := (· = [.da t.d, .da (.dic (wsD ws)), .un, .da (.str t.ord), .da (.int (t.k : Int)), .da (.tup (ptsD t.ps)), .un])) (run_asg (p := (· = t.d)) [3, 4, 5] (eg_var rfl) fun d e => ⟨_, by rw [e]; exact gg_three rfl rfl rfl rfl rfl rfl (by decide) (by decide) (by decide) (by simp) (by simp) (by simp), rfl⟩) fun G1 e => ?_
  subst e
  refine q_set (d := .lst ((srt (t.vals ws)).map Dt.int)) (ed_cb (ea_1 (eg_eq (ed_lcG (xs := t.ps) (g := Pt.d) (h := fun p => Dt.int (p.val ws)) rfl (wk_any1 (d := .tup (ptsD t.ps)) (eg_var rfl) rfl) (by omega) (fun p hp q hq e => ?_) fun p hp => ed_callX (out := fun a : PwIn => Dt.int (a.p.val a.ws)) ⟨p, ws⟩ (ea_2 (eg_var rfl) (eg_var rfl)) (hh p hp)) (c := .lst ((t.vals ws).map Dt.int)) ?_)) (rc_sorted (by omega) rfl)) ?_
  · have e1 := ptv_d ws p
    have e2 := ptv_d ws q
    rw [← e1, ← e2, e]
  · unfold Term.vals
    rw [List.map_map]
    rfl
  have hat : ∀ {j : Nat}, j < t.ps.length → ((srt (t.vals ws)).map Dt.int)[j]? = some (.int ((srt (t.vals ws)).getD j 0)) := fun {j} hj => by
    rw [List.getElem?_map, List.getElem?_eq_getElem (by omega), List.getD_eq_getElem?_getD, List.getElem?_eq_getElem (by omega)]
    rfl
  have hml : ((srt (t.vals ws)).map Dt.int).length = t.ps.length := by rw [List.length_map, hsl]
  refine run_ret (eg_if (p := (· = t.hi)) (et_eq (et_tst1 (ed_eqS (i := t.ord) (j := sHigh) (eg_var rfl) eg_str)) ?_) (fun z => ?_) fun z => ?_)
  · unfold Term.ord
    cases t.hi <;> decide +kernel
  · refine eg_eq (ed_ixL (eg_var rfl) (ed_negI (eg_var rfl)) (at_neg k1 (by rw [hml]; exact kn) (hat (by rw [hml]; omega)))) ?_
    show Dt.int _ = Dt.int (t.val ws)
    unfold Term.val
    rw [hml, ← z, if_pos rfl]
  · refine eg_eq (ed_ixL (eg_var rfl) (ed_sub (eg_var rfl) eg_int) (by rw [show (t.k : Int) - 1 = ((t.k - 1 : Nat) : Int) by omega]; exact atI_nat (hat (by omega)))) ?_
    show Dt.int _ = Dt.int (t.val ws)
    unfold Term.val
    rw [← z, if_neg Bool.false_ne_true]
end
end Sb

set_option Elab.async false
set_option linter.all false
set_option maxRecDepth 100000
set_option autoImplicit false
namespace Sb
open PySem PySem.Spec PyProof.Rows L2 TL
/-! ### the text of a rule with lines -/
def sEq : Str := " = "
def lnT (l : Ln) : Str := l.n ++ sEq ++ l.t.txt
def textsL (seats : List Str) (ls : List Ln) (rows : List Row) : List Str := (sSeats ++ jn seats) :: (ls.map lnT ++ rows.map Row.txt)
theorem empty_app (x : Str) : Str.empty ++ x = x := by
  apply str_ext
  rw [cs_app]
  rfl
section
variable {K : KX} {S : List Addr} {G : List Sl}
theorem ed_fs3 {ta tb : TE} {x m y : Str} (ha : Eg K S G ta (· = .str x)) (hb : Eg K S G tb (· = .str y)) (hl : x.length + m.length + y.length ≤ 100000) : Eg K S G (fun σ H Q => tJs [tFmt ta, tC (.str m), tFmt tb] Str.empty σ H fun out H1 => Q (.str out) H1) (· = .str (x ++ m ++ y)) := fun B O σ H hh Q k =>
  ha B O σ H hh _ fun v H1 d hd h1 g1 d1 => by
    subst hd
    cases (show v = _ from d1)
    have hs : 100000 ≤ sizeLine := by decide
    refine .inl ⟨x, rfl, by omega, x, rfl, by rw [empty_app]; omega, m, rfl, by rw [empty_app, Str.length_append]; omega, hb B O σ H1 h1 _ fun w H2 e he h2 g2 d2 => ?_⟩
    subst he
    cases (show w = _ from d2)
    refine .inl ⟨y, rfl, by omega, y, rfl, by rw [empty_app, Str.length_append, Str.length_append]; omega, ?_⟩
    rw [empty_app]
    exact k _ _ _ rfl h2 (g1.trans g2) rfl
end
section
variable {P : Program} {w : World} {K : KX} {mg : Str → Option Value} {base : Heap} {aS aO C : Addr}
structure TextInL where
  seats : List Str
  ls : List Ln
  rows : List Row
def TextInL.ok (a : TextInL) : Prop := SeatsOk a.seats ∧ LinesOk a.seats a.ls ∧ RowsOk a.seats (a.seats ++ nmL a.ls) a.rows
theorem names_ok {seats : List Str} {ls : List Ln} (h1 : SeatsOk seats) (h2 : LinesOk seats ls) : NamesOk (seats ++ nmL ls) := fun x hx => by
  rcases List.mem_append.mp hx with z | z
  · exact h1.ok x z
  · exact h2.ok x z
theorem term_len {seats : List Str} {ls : List Ln} (h1 : SeatsOk seats) (h2 : LinesOk seats ls) {l : Ln} (hl : l ∈ ls) : l.t.txt.length ≤ 168 ∧ l.n.length ≤ 8 := by
  obtain ⟨i, hi⟩ := List.mem_iff_getElem?.mp hl
  have ht := h2.tm i l hi
  have hn : NamesOk (seats ++ (nmL ls).take i) := fun x hx => by
    rcases List.mem_append.mp hx with z | z
    · exact h1.ok x z
    · exact h2.ok x (List.mem_of_mem_take z)
  have := jn_len (Term.words hn ht)
  rw [ws_len] at this
  have h6 := ht.n6
  refine ⟨?_, (h2.ok l.n (by unfold nmL; exact List.mem_map_of_mem hl)).len.2⟩
  show (jn l.t.ws).length ≤ 168
  omega
abbrev sp_text_ofL (K : KX) : Sp := spX K (fun a : TextInL => [Dt.tup (strsD a.seats), .tup (lnD (lnS a.ls)), .tup (txD a.rows)]) TextInL.ok (fun a e => e = .str (Txt.join sNl (textsL a.seats a.ls a.rows)))
theorem ok_text_ofL {f : Addr} {fd : FuncData} (F : Fun K "text_of" "text_of" s_text_of f fd) (B : Bf K mg aS aO) : FnOk P w K mg base CX0 1 f fd A_text_of (sp_text_ofL K) := by
  refine fn_x F sc_text_of (fun _ => rfl) fun cdv A outer s H E hr => ⟨_, (pss_cons (ps_set (i := 3) sc_text_of.nd rfl (Or.inl rfl) (pe_lst (pa_cons (pe_op (op_addK (K := K)) pe_str (pe_joinK (K := K) pe_str (pv 0))) pa_nil))) (pss_one (ps_ret (pe_joinK (K := K) pe_str (pe_op (op_addK (K := K)) (pe_op (op_addK (K := K)) (pv 3) (pe_lc (own := [("name", 4), ("term", 5)]) (g := gTup K 2 (gCons (gName 4) (gCons (gName 5) gNil))) (by rfl) sc_text_of.nd (pi_anyK (K := K) (pv 1)) (blkOk_by (own := [("name", 4), ("term", 5)]) (N := N_text_of) (sc := defScope s_text_of) (by decide +kernel)) (fun _ _ _ _ _ => (pg_tup rfl (pgs_cons (pg_name (i := 4) sc_text_of.nd rfl (Or.inl rfl)) (pgs_cons (pg_name (i := 5) sc_text_of.nd rfl (Or.inl rfl)) pgs_nil)))) (fun _ _ _ _ _ => pts_nil) (fun _ _ _ _ _ => (pe_joined (.cons (pe_fmt (pv 4)) (.cons pe_str (.cons (pe_fmt (pv 5)) .nil))))))) (pe_callTy (call_lstK (K := K)) (by rfl) B.n_list (by decide +kernel) (pa_cons (pv 2) pa_nil))))))), fun a ha => ?_⟩
  obtain ⟨seats, ls, rows⟩ := a
  obtain ⟨h1, h2, h3⟩ := ha
  have h1 : SeatsOk seats := h1
  have h2 : LinesOk seats ls := h2
  have h3 : RowsOk seats (seats ++ nmL ls) rows := h3
  have hn4 := h1.n4
  have hn6 := h3.n6
  have hn8 := h2.n8
  have hj : (jn seats).length ≤ 21 * seats.length := jn_len fun x hx => word_name (h1.ok x hx)
  have hsl : sSeats.length = 6 := by decide +kernel
  have hel : sEq.length = 3 := by decide +kernel
  have hws : ∀ x ∈ seats.map (·.length), x ≤ 20 := fun x hx => by
    obtain ⟨y, hy, rfl⟩ := List.mem_map.mp hx
    exact (word_name (h1.ok y hy)).2
  have hsum := sum_le hws
  rw [List.length_map] at hsum
  have htx : ∀ x ∈ (textsL seats ls rows).map (·.length), x ≤ 200 := fun x hx => by
    obtain ⟨y, hy, rfl⟩ := List.mem_map.mp hx
    rcases List.mem_cons.mp hy with z | z
    · rw [z, Str.length_append]
      omega
    · rcases List.mem_append.mp z with z | z
      · obtain ⟨l, hl, rfl⟩ := List.mem_map.mp z
        obtain ⟨t1, t2⟩ := term_len h1 h2 hl
        show (l.n ++ sEq ++ l.t.txt).length ≤ 200
        rw [Str.length_append, Str.length_append]
        omega
      · obtain ⟨r, hr, rfl⟩ := List.mem_map.mp z
        exact row_len h1.ok (by omega) (names_ok h1 h2) (h3.ok r hr)
  have hsum2 := sum_le htx
  have hlen : (textsL seats ls rows).length = rows.length + ls.length + 1 := by
    unfold textsL
    rw [List.length_cons, List.length_append, List.length_map, List.length_map]
    omega
  rw [List.length_map, hlen] at hsum2
  have s1l : sp1.length = 1 := by decide +kernel
  have snl : sNl.length = 1 := by decide +kernel
  refine q_set (d := .lst (strsD [sSeats ++ jn seats])) (ed_lst (ea_1 (ed_addS eg_str (eg_m1 (x := sp1) (y := .tup (strsD seats)) eg_str (eg_var rfl) (rm_join true (by rw [s1l]; omega) rfl)) (by show sSeats.length + (jn seats).length ≤ 100000; omega))) (by show 1 ≤ 100000; decide)) ?_
  refine run_ret (eg_m1 (x := sNl) (y := .lst (strsD (textsL seats ls rows))) eg_str (eg_eq (ed_addL (i := strsD [sSeats ++ jn seats] ++ strsD (ls.map lnT)) (j := txD rows) (ed_addL (i := strsD [sSeats ++ jn seats]) (j := strsD (ls.map lnT)) (eg_var rfl) (eg_eq (ed_lcMap2 (ds := lnD (lnS ls)) (f := fun d => match d with | .tup [.str x, .str y] => .str (x ++ sEq ++ y) | _ => .non) rfl rfl (by decide) (wk_any1 (d := .tup (lnD (lnS ls))) (eg_var rfl) rfl) (by rw [lnD_len, lnS_len]; omega) fun d hd => ?_) ?_) ?_) (ed_cb (ea_1 (eg_var rfl)) (rc_lstT rfl)) ?_) ?_) (rm_join false ?_ rfl))
  · obtain ⟨q, hq, rfl⟩ := List.mem_map.mp hd
    obtain ⟨l, hl, rfl⟩ := List.mem_map.mp hq
    obtain ⟨t1, t2⟩ := term_len h1 h2 hl
    exact ⟨.str l.n, .str l.t.txt, rfl, ed_fs3 (x := l.n) (m := sEq) (y := l.t.txt) (eg_var rfl) (eg_var rfl) (by omega)⟩
  · unfold lnD lnS strsD
    rw [List.map_map, List.map_map, List.map_map]
    rfl
  · rw [strsD_len, strsD_len, List.length_map]
    simp only [List.length_cons, List.length_nil]
    omega
  · unfold txD
    rw [List.length_append, strsD_len, strsD_len, strsD_len, List.length_map, List.length_map]
    simp only [List.length_cons, List.length_nil]
    omega
  · unfold txD textsL strsD
    simp
  · rw [snl, hlen]
    omega
end
end Sb

set_option Elab.async false
set_option linter.all false
set_option maxRecDepth 100000
set_option autoImplicit false
namespace Sb
open PySem PySem.Spec PyProof.Rows L2 TL
section
variable {P : Program} {w : World} {K : KX} {mg : Str → Option Value} {base : Heap} {aS aO C : Addr}
/-! ### a rule with lines -/
def ruleL (seats : List Str) (ls : List Ln) (rows : List Row) : List (Str × Dt) := [("passed", .tup [.tup (strsD seats), .tup (lnD (lnS ls)), .tup (txD rows)]), ("terms", .tup (tmD ls)), ("steps", .tup (stD rows)), ("text", .str (Txt.join sNl (textsL seats ls rows)))]
abbrev sp_RuleL (K : KX) (C : Addr) : Sp := spI K C (fun a : TextInL => [Dt.tup (strsD a.seats), .tup (lnD (lnS a.ls)), .tup (txD a.rows)]) TextInL.ok (fun a => ruleL a.seats a.ls a.rows)
theorem lnS_all (ls : List Ln) : (lnS ls).map (·.1) = nmL ls := by unfold lnS nmL; rw [List.map_map]; rfl
theorem nmL_len (ls : List Ln) : (nmL ls).length = ls.length := by unfold nmL; rw [List.length_map]
theorem ok_Rule_initL {f : Addr} {fd : FuncData} (F : Fun K "__init__" "Rule.__init__" s_Rule___init__ f fd) (R : RC K C) (B : Bf K mg aS aO) (c_check_seats : Cal P w K mg base 2 "check_seats" (sp_check_seats K)) (c_check_lines : Cal P w K mg base 3 "check_lines" (sp_check_linesG K))
    (c_read_terms : Cal P w K mg base 4 "read_terms" (sp_read_termsG K)) (c_read_steps : Cal P w K mg base 5 "read_steps" (sp_read_steps K)) (c_names_of : Cal P w K mg base 1 "names_of" (sp_names_of K)) (c_text_of : Cal P w K mg base 1 "text_of" (sp_text_ofL K)) :
    FnOk P w K mg base CX0 6 f fd A_Rule___init__ (sp_RuleL K C) := by
  refine fn_init F sc_Rule___init__ (fun _ => rfl) fun cdv A outer s H E hr => ⟨_, (pss_cons (ps_expr (pe_c c_check_seats hr (by decide) (by rfl) (pa_cons (pv 1) pa_nil))) (pss_cons (ps_expr (pe_c c_check_lines hr (by decide) (by rfl) (pa_cons (pv 2) (pa_cons (pv 1) pa_nil)))) (pss_cons (ps_set (i := 4) sc_Rule___init__.nd rfl (Or.inl rfl) (pe_c c_read_terms hr (by decide) (by rfl) (pa_cons (pv 2) (pa_cons (pv 1) pa_nil)))) (pss_cons (ps_set (i := 5) sc_Rule___init__.nd rfl (Or.inl rfl) (pe_c c_read_steps hr (by decide) (by rfl) (pa_cons (pv 3) (pa_cons (pv 1) (pa_cons (pe_c c_names_of hr (by decide) (by rfl) (pa_cons (pv 1) (pa_cons (pv 2) pa_nil))) pa_nil))))) (pss_cons (ps_fld (pv 0) (pe_tup (pa_cons (pv 1) (pa_cons (pv 2) (pa_cons (pv 3) pa_nil)))) rfl) (pss_cons (ps_fld (pv 0) (pv 4) rfl) (pss_cons (ps_fld (pv 0) (pv 5) rfl) (pss_one (ps_fld (pv 0) (pe_c c_text_of hr (by decide) (by rfl) (pa_cons (pv 1) (pa_cons (pv 2) (pa_cons (pv 3) pa_nil)))) rfl))))))))), fun a ha B O x dx σ H D hh k => ?_⟩
  obtain ⟨seats, ls, rows⟩ := a
  have h1 : SeatsOk seats := ha.1
  have h0 : LinesOk seats ls := ha.2.1
  have h2 : RowsOk seats (seats ++ nmL ls) rows := ha.2.2
  have h4 := h1.n4
  have h8 := h0.n8
  have hnl : (seats ++ nmL ls).length ≤ 100 := by rw [List.length_append, nmL_len]; omega
  refine hold_seq (N1 := (· = [.rf x, .da (.tup (strsD seats)), .da (.tup (lnD (lnS ls))), .da (.tup (txD rows)), .un, .un])) (run_drop (ed_callX (out := fun _ : List Str => Dt.non) seats (ea_1 (eg_var rfl)) h1) rfl) hh fun G1 σ H e hh => ?_
  subst e
  refine hold_seq (N1 := (· = [.rf x, .da (.tup (strsD seats)), .da (.tup (lnD (lnS ls))), .da (.tup (txD rows)), .un, .un])) (run_drop (ed_callX (out := fun _ : LnIn => Dt.non) ⟨ls, seats⟩ (ea_2 (eg_var rfl) (eg_var rfl)) ⟨h1, h0⟩) rfl) hh fun G1 σ H e hh => ?_
  subst e
  refine hold_seq (N1 := (· = [.rf x, .da (.tup (strsD seats)), .da (.tup (lnD (lnS ls))), .da (.tup (txD rows)), .da (.tup (tmD ls)), .un])) (run_set (s := .un) (ed_callX (out := fun a : LnIn => Dt.tup (tmD a.ls)) ⟨ls, seats⟩ (ea_2 (eg_var rfl) (eg_var rfl)) ⟨h1, h0⟩) rfl rfl fun d e => by rw [e]; rfl) hh fun G1 σ H e hh => ?_
  subst e
  have hnm : ∀ {G : List Sl} {ta tb : TE}, Eg K [] G ta (· = .tup (strsD seats)) → Eg K [] G tb (· = .tup (lnD (lnS ls))) → Eg K [] G (tCall (sp_names_of K) [] E0 (tCons ta (tCons tb tNil))) (· = .lst (strsD (seats ++ nmL ls))) := fun ha hb =>
    eg_eq (ed_callX (out := fun a : NamesIn => Dt.lst (strsD (a.seats ++ a.lines.map (·.1)))) ⟨seats, lnS ls⟩ (ea_2 ha hb) ⟨by show seats.length ≤ 100; omega, by show (lnS ls).length ≤ 100; rw [lnS_len]; omega⟩) (by rw [lnS_all])
  refine hold_seq (N1 := (· = [.rf x, .da (.tup (strsD seats)), .da (.tup (lnD (lnS ls))), .da (.tup (txD rows)), .da (.tup (tmD ls)), .da (.tup (stD rows))])) (run_set (s := .un) (ed_callX (out := fun a : RowsIn => Dt.tup (stD a.rows)) ⟨rows, seats, seats ++ nmL ls⟩ (ea_3 (eg_var rfl) (eg_var rfl) (hnm (eg_var rfl) (eg_var rfl))) ⟨h2, h1.ok, by show seats.length ≤ 9; omega, names_ok h1 h0, hnl⟩) rfl rfl fun d e => by rw [e]; rfl) hh fun G1 σ H e hh => ?_
  subst e
  refine fld_step (D := { D with nx := _ }) (i := 0) (ds := []) (fs := []) hh rfl R.cls R.n_passed (ed_tup (ea_3 (eg_var rfl) (eg_var rfl) (eg_var rfl))) rfl (by decide) rfl fun H fs hh hf => ?_
  refine fld_step (D := { D with nx := _ }) (i := 0) hh rfl R.cls R.n_terms (eg_var rfl) hf (by show 1 < 100; decide) rfl fun H fs hh hf => ?_
  refine fld_step (D := { D with nx := _ }) (i := 0) hh rfl R.cls R.n_steps (eg_var rfl) hf (by show 2 < 100; decide) rfl fun H fs hh hf => ?_
  have htx : ∀ {G : List Sl} {ta tb tc : TE}, Eg K [] G ta (· = .tup (strsD seats)) → Eg K [] G tb (· = .tup (lnD (lnS ls))) → Eg K [] G tc (· = .tup (txD rows)) → Eg K [] G (tCall (sp_text_ofL K) [] E0 (tCons ta (tCons tb (tCons tc tNil)))) (· = .str (Txt.join sNl (textsL seats ls rows))) := fun ha hb hc =>
    ed_callX (out := fun a : TextInL => Dt.str (Txt.join sNl (textsL a.seats a.ls a.rows))) ⟨seats, ls, rows⟩ (ea_3 ha hb hc) ⟨h1, h0, h2⟩
  refine fld_step (D := D) (i := 0) hh rfl R.cls R.n_text (htx (eg_var rfl) (eg_var rfl) (eg_var rfl)) hf (by show 3 < 100; decide) rfl fun H fs hh hf => ?_
  refine k _ _ _ _ hh rfl ?_
  have ep : ∀ (G : List Sl), ads G = [] → pof O G = op O := fun G e => by unfold pof; rw [e, List.append_nil]; rfl
  rw [ep _ rfl] at hf
  exact hf
/-! ### properties -/
abbrev sp_seatsL (K : KX) (C : Addr) : Sp := spX K (fun a : TextInL => [Dt.obj C (ruleL a.seats a.ls a.rows)]) (fun _ => True) (fun a e => e = .tup (strsD a.seats))
theorem ok_Rule_seatsL {f : Addr} {fd : FuncData} (F : Fun K "seats" "Rule.seats" s_Rule_seats f fd) (R : RC K C) : FnOk P w K mg base CX0 1 f fd A_Rule_seats (sp_seatsL K C) := by
  refine fn_x F sc_Rule_seats (fun _ => rfl) fun cdv A outer s H E hr => ⟨_, (pss_one (ps_ret (pe_ix (ix_anyK (K := K)) (pe_fld (pv 0) rfl) pe_int (fun _ _ => rfl)))), fun a ha => ?_⟩
  exact run_ret (ed_ixT (eg_fld (eg_var rfl) R.cls R.n_passed rfl) eg_int rfl)
abbrev sp_linesL (K : KX) (C : Addr) : Sp := spX K (fun a : TextInL => [Dt.obj C (ruleL a.seats a.ls a.rows)]) (fun _ => True) (fun a e => e = .tup (lnD (lnS a.ls)))
theorem ok_Rule_linesL {f : Addr} {fd : FuncData} (F : Fun K "lines" "Rule.lines" s_Rule_lines f fd) (R : RC K C) : FnOk P w K mg base CX0 1 f fd A_Rule_lines (sp_linesL K C) := by
  refine fn_x F sc_Rule_lines (fun _ => rfl) fun cdv A outer s H E hr => ⟨_, (pss_one (ps_ret (pe_ix (ix_anyK (K := K)) (pe_fld (pv 0) rfl) pe_int (fun _ _ => rfl)))), fun a ha => ?_⟩
  exact run_ret (ed_ixT (eg_fld (eg_var rfl) R.cls R.n_passed rfl) eg_int rfl)
/-! ### the values of all names -/
def worthsL (ws : List (Str × Int)) : List Ln → List (Str × Int)
  | [] => ws
  | l :: ls => worthsL (ws ++ [(l.n, l.t.val ws)]) ls
end
end Sb

set_option Elab.async false
set_option linter.all false
set_option maxRecDepth 100000
set_option autoImplicit false
namespace Sb
open PySem PySem.Spec PyProof.Rows L2 TL
theorem worthsL_app (l : Ln) : ∀ (ls : List Ln) (ws : List (Str × Int)), worthsL ws (ls ++ [l]) = worthsL ws ls ++ [(l.n, l.t.val (worthsL ws ls))]
  | [], ws => rfl
  | a :: ls, ws => by
    show worthsL (ws ++ [(a.n, a.t.val ws)]) (ls ++ [l]) = _
    rw [worthsL_app l ls]
    rfl
theorem worthsL_keys : ∀ (ls : List Ln) (ws : List (Str × Int)), (worthsL ws ls).map (·.1) = ws.map (·.1) ++ nmL ls
  | [], ws => by
    show ws.map (·.1) = ws.map (·.1) ++ []
    rw [List.append_nil]
  | a :: ls, ws => by
    show (worthsL (ws ++ [(a.n, a.t.val ws)]) ls).map (·.1) = _
    rw [worthsL_keys ls, List.map_append, List.append_assoc]
    rfl
theorem has_key {x : Str} : ∀ {ws : List (Str × Int)}, x ∈ ws.map (·.1) → ∃ v, ws.lookup x = some v
  | [], h => by cases h
  | (y, u) :: ws, h => by
    rw [List.lookup_cons]
    cases q : x == y with
    | true => exact ⟨u, rfl⟩
    | false =>
      have h' : x ∈ y :: ws.map (·.1) := h
      rcases List.mem_cons.mp h' with z | z
      · rw [z] at q
        simp at q
      · exact has_key z
theorem zip_keys : ∀ {xs : List Str} {ys : List Int}, ys.length = xs.length → (xs.zip ys).map (·.1) = xs
  | [], _, _ => by rw [List.zip_nil_left]; rfl
  | _ :: _, [], h => by cases h
  | x :: xs, y :: ys, h => by
    show x :: (xs.zip ys).map (·.1) = x :: xs
    rw [zip_keys (by simpa using h)]
theorem wsD_app (ws : List (Str × Int)) (x : Str) (v : Int) : wsD (ws ++ [(x, v)]) = wsD ws ++ [(x, .int v)] := by unfold wsD; rw [List.map_append]; rfl
section
variable {P : Program} {w : World} {K : KX} {mg : Str → Option Value} {base : Heap} {aS aO C : Addr}
structure WoInL where
  seats : List Str
  ls : List Ln
  rows : List Row
  bids : List Int
def WoInL.ok (a : WoInL) : Prop := SeatsOk a.seats ∧ LinesOk a.seats a.ls ∧ a.bids.length = a.seats.length
abbrev sp_worthsL (K : KX) (C : Addr) : Sp := spX K (fun a : WoInL => [Dt.obj C (ruleL a.seats a.ls a.rows), .tup (intsD a.bids)]) WoInL.ok (fun a e => e = .dic (wsD (worthsL (a.seats.zip a.bids) a.ls)))
theorem ok_Rule_worthsL {f : Addr} {fd : FuncData} (F : Fun K "worths" "Rule.worths" s_Rule_worths f fd) (R : RC K C) (B : Bf K mg aS aO) (p_seats : PrX P w K mg base 1 C "seats" (sp_seatsL K C)) (p_lines : PrX P w K mg base 1 C "lines" (sp_linesL K C)) (c_names_of : Cal P w K mg base 1 "names_of" (sp_names_of K))
    (c_term_worth : Cal P w K mg base 3 "term_worth" (sp_term_worth K)) : FnOk P w K mg base CX0 4 f fd A_Rule_worths (sp_worthsL K C) := by
  refine fn_x F sc_Rule_worths (fun _ => rfl) fun cdv A outer s H E hr => ⟨_, (pss_cons (ps_set (i := 2) sc_Rule_worths.nd rfl (Or.inl rfl) (pe_dictZip (by rfl) B.n_dict B.n_zip (pa_cons (pe_propX p_seats hr (by decide) (pv 0)) (pa_cons (pv 1) pa_nil)))) (pss_cons (ps_for PassesOwn.never rfl (pi_zipX rfl B.n_zip (pa_cons (pe_c c_names_of hr (by decide) (by rfl) (pa_cons (pe_tup pa_nil) (pa_cons (pe_propX p_lines hr (by decide) (pv 0)) pa_nil))) (pa_cons (pe_fld (pv 0) rfl) pa_nil))) (pg_tup rfl (pgs_cons (pg_name (i := 3) sc_Rule_worths.nd rfl (Or.inl rfl)) (pgs_cons (pg_name (i := 4) sc_Rule_worths.nd rfl (Or.inl rfl)) pgs_nil))) (pss_one (ps_dput (hu_of hr) (pv 2) (pv 3) (pe_c c_term_worth hr (by decide) (by rfl) (pa_cons (pv 4) (pa_cons (pv 2) pa_nil))) rfl))) (pss_one (ps_ret (pv 2))))), fun a ha => ?_⟩
  obtain ⟨seats, ls, rows, bids⟩ := a
  have h1 : SeatsOk seats := ha.1
  have h0 : LinesOk seats ls := ha.2.1
  have hl : bids.length = seats.length := ha.2.2
  have h4 := h1.n4
  have h8 := h0.n8
  have zl : (seats.zip bids).length = seats.length := by rw [List.length_zip, hl, Nat.min_self]
  refine run_seq (N1 := fun G => ∃ p, G = [.da (.obj C (ruleL seats ls rows)), .da (.tup (intsD bids)), .od p (wsD (seats.zip bids)), .un, .un]) (run_dz (xs := seats) (ys := intsD bids) (ea_2 (eg_propX (⟨seats, ls, rows⟩ : TextInL) (eg_var rfl) rfl trivial fun _ e => e) (eg_var rfl)) h1.nd (by rw [intsD_len]; exact hl.symm) rfl rfl fun p => ⟨p, by rw [wsD_zip]; rfl⟩) fun G1 hG => ?_
  obtain ⟨p, rfl⟩ := hG
  refine run_seq (N1 := fun G => ∃ s t, G = [.da (.obj C (ruleL seats ls rows)), .da (.tup (intsD bids)), .od p (wsD (worthsL (seats.zip bids) ls)), s, t])
    (run_forD (ds := zipD (strsD (nmL ls)) (tmD ls)) (fun i G => ∃ s t, G = [.da (.obj C (ruleL seats ls rows)), .da (.tup (intsD bids)), .od p (wsD (worthsL (seats.zip bids) (ls.take i))), s, t] ∧ s.ad = none ∧ t.ad = none)
      (wk_zipX (ea_2 (eg_eq (ed_callX (out := fun a : NamesIn => Dt.lst (strsD (a.seats ++ a.lines.map (·.1)))) ⟨[], lnS ls⟩ (ea_2 (ed_tup ea_nil (by show 0 ≤ 100000; omega)) (eg_propX (⟨seats, ls, rows⟩ : TextInL) (eg_var rfl) rfl trivial fun _ e => e)) ⟨by show 0 ≤ 100; omega, by show (lnS ls).length ≤ 100; rw [lnS_len]; omega⟩) (by rw [lnS_all]; rfl)) (eg_fld (eg_var rfl) R.cls R.n_terms rfl))) ⟨.un, .un, rfl, rfl, rfl⟩ (fun i d G1 hd hI => ?_) fun G1 hI => ?_) fun G1 hG => ?_
  · obtain ⟨s, t, rfl, hs, ht⟩ := hI
    have hz : ∃ l, ls[i]? = some l ∧ d = .tup [.str l.n, l.t.d] := by
      unfold zipD at hd
      rw [List.getElem?_map] at hd
      cases q : ((strsD (nmL ls)).zip (tmD ls))[i]? with
      | none => rw [q] at hd; cases hd
      | some pr =>
        rw [q] at hd
        rw [List.getElem?_zip_eq_some] at q
        unfold strsD nmL tmD at q
        rw [List.getElem?_map, List.getElem?_map, List.getElem?_map] at q
        cases z : ls[i]? with
        | none => rw [z] at q; cases q.1
        | some l =>
          rw [z] at q
          refine ⟨l, rfl, ?_⟩
          rw [← Option.some.inj hd]
          show Dt.tup [pr.1, pr.2] = _
          rw [← Option.some.inj q.1, ← Option.some.inj q.2]
    obtain ⟨l, hli, rfl⟩ := hz
    have hlt : i < ls.length := (List.getElem?_eq_some_iff.mp hli).1
    have hsucc : worthsL (seats.zip bids) (ls.take (i + 1)) = worthsL (seats.zip bids) (ls.take i) ++ [(l.n, l.t.val (worthsL (seats.zip bids) (ls.take i)))] := by
      rw [List.take_add_one, hli]
      exact worthsL_app l _ _
    have hkeys : (worthsL (seats.zip bids) (ls.take i)).map (·.1) = seats ++ (nmL ls).take i := by
      rw [worthsL_keys, zip_keys hl]
      unfold nmL
      rw [List.map_take]
    have htm := h0.tm i l hli
    refine ⟨[3, 4], _, gg_two rfl hs rfl ht (by decide) (by simp) (by simp), ?_⟩
    refine run_dput (i := 2) (p := p) (x := l.n) (d := .int (l.t.val (worthsL (seats.zip bids) (ls.take i)))) rfl (eg_lend (i := 2) (q := p) (u := .int (l.t.val (worthsL (seats.zip bids) (ls.take i)))) rfl rfl rfl (ed_callX (out := fun a : TwIn => Dt.int (a.t.val a.ws)) ⟨l.t, worthsL (seats.zip bids) (ls.take i)⟩ (ea_2 (eg_var rfl) (eg_var rfl)) ⟨htm.k1, htm.kn, htm.n6, fun pt hpt => ?_⟩)) (eg_var rfl) (fun q hq => ?_) ?_ ?_
    · have hok := htm.ps pt hpt
      cases pt with
      | nm x => exact has_key (by rw [hkeys]; exact hok)
      | nu n => trivial
    · obtain ⟨r, hr, rfl⟩ := List.mem_map.mp hq
      intro z
      have hm : r.1 ∈ (worthsL (seats.zip bids) (ls.take i)).map (·.1) := List.mem_map_of_mem hr
      rw [hkeys, show r.1 = l.n from z] at hm
      exact not_above h0 hli hm
    · have e1 := congrArg List.length hkeys
      rw [List.length_map, List.length_append, List.length_take, nmL_len] at e1
      unfold wsD
      rw [List.length_map]
      omega
    · refine ⟨.da (.str l.n), .da l.t.d, ?_, rfl, rfl⟩
      rw [hsucc, wsD_app]
      rfl
  · obtain ⟨s, t, rfl, _⟩ := hI
    have e : (zipD (strsD (nmL ls)) (tmD ls)).length = ls.length := by
      unfold zipD tmD
      rw [List.length_map, List.length_zip, strsD_len, nmL_len, List.length_map, Nat.min_self]
    rw [e, List.take_length]
    exact ⟨s, t, rfl⟩
  · obtain ⟨s, t, rfl⟩ := hG
    exact run_releaseD 2 (run_ret (eg_var rfl))
end
end Sb

set_option Elab.async false
set_option linter.all false
set_option maxRecDepth 100000
set_option autoImplicit false
namespace Sb
open PySem PySem.Spec PyProof.Rows L2 TL
abbrev s_Rule_value : Stmt := inClass (top 31) 10
abbrev N_Rule_value : List Str := ["self", "name", "bids"]
abbrev A_Rule_value : List Str := ["self", "name", "bids"]
theorem sc_Rule_value : FnScope N_Rule_value A_Rule_value (defScope s_Rule_value) :=
  ⟨rfl, rfl, rfl, by decide +kernel, rfl, by decide +kernel, by decide +kernel⟩
section
variable {P : Program} {w : World} {K : KX} {mg : Str → Option Value} {base : Heap} {aS aO C : Addr}
/-! ### the value of a name -/
structure ValIn where
  seats : List Str
  ls : List Ln
  rows : List Row
  name : Str
  bids : List Int
structure ValIn.ok (a : ValIn) : Prop where
  seats : SeatsOk a.seats
  lines : LinesOk a.seats a.ls
  name : a.name ∈ a.seats ++ nmL a.ls
  len : a.bids.length = a.seats.length
  nn : ∀ b ∈ a.bids, 0 ≤ b
def valueOf (seats : List Str) (ls : List Ln) (bids : List Int) (x : Str) : Int := ((worthsL (seats.zip bids) ls).lookup x).getD 0
abbrev sp_value (K : KX) (C : Addr) : Sp := spX K (fun a : ValIn => [Dt.obj C (ruleL a.seats a.ls a.rows), .str a.name, .tup (intsD a.bids)]) ValIn.ok (fun a e => e = .int (valueOf a.seats a.ls a.bids a.name))
theorem ok_Rule_value {f : Addr} {fd : FuncData} (F : Fun K "value" "Rule.value" s_Rule_value f fd) (R : RC K C) (B : Bf K mg aS aO) (p_seats : PrX P w K mg base 1 C "seats" (sp_seatsL K C)) (p_lines : PrX P w K mg base 1 C "lines" (sp_linesL K C)) (c_names_of : Cal P w K mg base 1 "names_of" (sp_names_of K))
    (c_check_bids : Cal P w K mg base 2 "check_bids" (sp_check_bids K)) (m_worths : Met P w K mg base 4 C "worths" (sp_worthsL K C)) : FnOk P w K mg base CX0 5 f fd A_Rule_value (sp_value K C) := by
  refine fn_x F sc_Rule_value (fun _ => rfl) fun cdv A outer s H E hr => ⟨_, (pss_cons (ps_if ((pw_or (pt_not (pt_val (pe_callB (call_isiQ (K := K)) (by rfl) B.n_isinstance (by decide +kernel) (pa_cons (pv 1) (pa_cons (pe_bltn (v := .ty "str") (by rfl) B.n_str (by decide +kernel) rfl) pa_nil))))) (pw_or1 (pt_cmpR (op_niK (K := K)) (pv 1) (pe_c c_names_of hr (by decide) (by rfl) (pa_cons (pe_propX p_seats hr (by decide) (pv 0)) (pa_cons (pe_propX p_lines hr (by decide) (pv 0)) pa_nil))) rfl)))).pt (pss_one ps_never) pss_nil) (pss_cons (ps_expr (pe_c c_check_bids hr (by decide) (by rfl) (pa_cons (pv 2) (pa_cons (pe_propX p_seats hr (by decide) (pv 0)) pa_nil)))) (pss_one (ps_ret (pe_dget (hu_of hr) (pe_mt m_worths hr (by decide) (pv 0) (pa_cons (pv 2) pa_nil)) (pv 1) (fun _ _ => rfl)))))), fun a ha => ?_⟩
  obtain ⟨seats, ls, rows, x, bids⟩ := a
  have h1 : SeatsOk seats := ha.seats
  have h0 : LinesOk seats ls := ha.lines
  have hx : x ∈ seats ++ nmL ls := ha.name
  have hl : bids.length = seats.length := ha.len
  have hnn : ∀ b ∈ bids, 0 ≤ b := ha.nn
  have h4 := h1.n4
  have h8 := h0.n8
  have hps : ∀ {G : List Sl} {te : TE}, Eg K [] G te (· = .obj C (ruleL seats ls rows)) → Eg K [] G (tProp C (sp_seatsL K C) [] E0 te) (· = .tup (strsD seats)) := fun h => eg_propX (⟨seats, ls, rows⟩ : TextInL) h rfl trivial fun _ e => e
  have hpl : ∀ {G : List Sl} {te : TE}, Eg K [] G te (· = .obj C (ruleL seats ls rows)) → Eg K [] G (tProp C (sp_linesL K C) [] E0 te) (· = .tup (lnD (lnS ls))) := fun h => eg_propX (⟨seats, ls, rows⟩ : TextInL) h rfl trivial fun _ e => e
  refine q_no (et_eq (et_or1 (a := false) (et_not1 (a := true) (et_B1 (eg_isi (d := .str x) (eg_var rfl) rfl (by decide +kernel)))) fun _ => et_eq (et_tst1 (ed_niS (ys := seats ++ nmL ls) false (eg_var rfl) (eg_eq (ed_callX (out := fun a : NamesIn => Dt.lst (strsD (a.seats ++ a.lines.map (·.1)))) ⟨seats, lnS ls⟩ (ea_2 (hps (eg_var rfl)) (hpl (eg_var rfl))) ⟨by show seats.length ≤ 100; omega, by show (lnS ls).length ≤ 100; rw [lnS_len]; omega⟩) (by rw [lnS_all]; rfl)))) (by rw [decide_eq_true hx]; rfl)) rfl) ?_
  refine q_drop (ed_callX (out := fun _ : BidsIn => Dt.non) ⟨bids, seats⟩ (ea_2 (eg_var rfl) (hps (eg_var rfl))) ⟨hl, h4, hnn⟩) ?_
  have hk : x ∈ (worthsL (seats.zip bids) ls).map (·.1) := by rw [worthsL_keys, zip_keys hl]; exact hx
  obtain ⟨v, hv⟩ := has_key hk
  refine run_ret (eg_eq (eg_dget (ds := wsD (worthsL (seats.zip bids) ls)) (x := x) (eg_methX (px := (· = [.tup (intsD bids)])) (pz := (· = .dic (wsD (worthsL (seats.zip bids) ls)))) (eg_var rfl) rfl (ea_1 (eg_var rfl)) fun es e => ⟨(⟨seats, ls, rows, bids⟩ : WoInL), by rw [e], ⟨h1, h0, hl⟩, fun _ e => e⟩) (eg_var rfl) (wsD_get hv)) ?_)
  show Dt.int v = Dt.int (((worthsL (seats.zip bids) ls).lookup x).getD 0)
  rw [hv]
  rfl
end
end Sb

set_option Elab.async false
set_option linter.all false
set_option maxRecDepth 100000
set_option autoImplicit false
namespace Sb
open PySem PySem.Spec PyProof.Rows L2 TL
/-! ### no blank ahead of = in a row -/
def noBE : List Nat → Bool
  | a :: b :: r => !(a == 32 && b == 61) && noBE (b :: r)
  | _ => true
theorem noBE_one (a : Nat) : noBE [a] = true := rfl
theorem noBE_free : ∀ {l : List Nat}, 32 ∉ l → noBE l = true
  | [], _ => rfl
  | [a], _ => rfl
  | a :: b :: r, h => by
    show (!(a == 32 && b == 61) && noBE (b :: r)) = true
    have ha : (a == 32) = false := by
      have : a ≠ 32 := fun z => h (by simp [z])
      simpa using this
    rw [ha, noBE_free (l := b :: r) fun z => h (by simp [z])]
    rfl
theorem noBE_app : ∀ {x y : List Nat}, noBE x = true → noBE y = true → y.head? ≠ some 61 → noBE (x ++ y) = true
  | [], y, _, h, _ => h
  | [a], [], _, _, _ => rfl
  | [a], b :: y, _, h, n => by
    show (!(a == 32 && b == 61) && noBE (b :: y)) = true
    have hb : (b == 61) = false := by
      have : b ≠ 61 := fun z => n (by rw [z]; rfl)
      simpa using this
    rw [hb, Bool.and_false, h]
    rfl
  | a :: b :: x, y, hx, hy, n => by
    have hx' : (!(a == 32 && b == 61) && noBE (b :: x)) = true := hx
    rw [Bool.and_eq_true] at hx'
    show (!(a == 32 && b == 61) && noBE (b :: (x ++ y))) = true
    rw [hx'.1]
    exact noBE_app (x := b :: x) hx'.2 hy n
theorem par_none : ∀ {l acc : List Nat}, noBE l = true → par [32, 61, 32] acc l = none
  | [], _, _ => rfl
  | [a], acc, _ => by
    show (if pre [32, 61, 32] [a] = true then some (acc, ([a] : List Nat).drop 3) else par [32, 61, 32] (acc ++ [a]) []) = none
    rw [if_neg]
    · rfl
    · cases q : (32 == a) <;> simp [pre, q]
  | a :: b :: r, acc, h => by
    have h' : (!(a == 32 && b == 61) && noBE (b :: r)) = true := h
    rw [Bool.and_eq_true] at h'
    show (if pre [32, 61, 32] (a :: b :: r) = true then some (acc, (a :: b :: r).drop 3) else par [32, 61, 32] (acc ++ [a]) (b :: r)) = none
    rw [if_neg]
    · exact par_none h'.2
    · intro z
      have e : a = 32 ∧ b = 61 := by
        cases r with
        | nil => simp [pre] at z
        | cons c r => simp [pre] at z; omega
      rw [e.1, e.2] at h'
      exact absurd h'.1 (by decide)
/-- a word that does not begin with = -/
def Plain (x : Str) : Prop := Word x ∧ (cs x).head? ≠ some 61
theorem joinL_head : ∀ {ps : List (List Nat)}, (∀ p ∈ ps, p.head? ≠ some 61) → (joinL [32] ps).head? ≠ some 61
  | [], _ => by simp [joinL]
  | [p], h => h p (by simp)
  | p :: q :: ps, h => by
    have e : joinL [32] (p :: q :: ps) = p ++ ([32] ++ joinL [32] (q :: ps)) := by
      first
        | rfl
        | simp only [joinL, List.append_assoc]
    rw [e]
    cases p with
    | nil => simp
    | cons c r => exact h (c :: r) (by simp)
theorem joinL_noBE : ∀ {ps : List (List Nat)}, (∀ p ∈ ps, 32 ∉ p ∧ p.head? ≠ some 61) → noBE (joinL [32] ps) = true
  | [], _ => rfl
  | [p], h => noBE_free (h p (by simp)).1
  | p :: q :: ps, h => by
    have e : joinL [32] (p :: q :: ps) = p ++ ([32] ++ joinL [32] (q :: ps)) := by
      first
        | rfl
        | simp only [joinL, List.append_assoc]
    rw [e]
    have ih := joinL_noBE (ps := q :: ps) fun r hr => h r (by simp [hr])
    have hh := joinL_head (ps := q :: ps) fun r hr => (h r (by simp [hr])).2
    exact noBE_app (noBE_free (h p (by simp)).1) (noBE_app (x := [32]) rfl ih hh) (by simp)
theorem jn_noBE {ws : List Str} (h : ∀ x ∈ ws, Plain x) : noBE (cs (jn ws)) = true ∧ (cs (jn ws)).head? ≠ some 61 := by
  rw [cs_jn]
  refine ⟨joinL_noBE fun p hp => ?_, joinL_head fun p hp => ?_⟩
  · obtain ⟨x, hx, rfl⟩ := List.mem_map.mp hp
    exact ⟨fun z => ((h x hx).1.1 32 z).1 rfl, (h x hx).2⟩
  · obtain ⟨x, hx, rfl⟩ := List.mem_map.mp hp
    exact (h x hx).2
theorem plain_name {x : Str} (h : NameOk x) : Plain x := ⟨word_name h, fun z => by
  obtain ⟨c, r, e, h1, _⟩ := h.ex
  rw [e] at z
  have : c = 61 := Option.some.inj z
  unfold isLet at h1
  omega⟩
theorem plain_num {n : Nat} (h : n ≤ 1000000000000) : Plain (num n) := ⟨word_num h, fun z => by
  obtain ⟨c, r, e, h1⟩ := num_head n
  rw [e] at z
  have : c = 61 := Option.some.inj z
  unfold isDig at h1
  omega⟩
theorem Pt.plain {ns : List Str} (hn : NamesOk ns) {p : Pt} (h : p.ok ns) : Plain p.txt := by
  cases p with
  | nm x => exact plain_name (hn x h)
  | nu n => exact plain_num h
theorem Cond.plains {ns : List Str} (hn : NamesOk ns) {c : Cond} (h : c.ok ns) : ∀ x ∈ c.ws, Plain x := fun x hx => by
  unfold Cond.ws at hx
  simp only [List.mem_cons, List.not_mem_nil, or_false] at hx
  rcases hx with rfl | rfl | rfl | rfl
  · exact ⟨w_if, by decide +kernel⟩
  · exact Pt.plain hn h.1
  · refine ⟨c.sgw, ?_⟩
    unfold Cond.sg
    cases c.st <;> decide +kernel
  · exact Pt.plain hn h.2
theorem Deed.plains {seats ns : List Str} (hs : NamesOk seats) (hl : seats.length ≤ 9) (hn : NamesOk ns) {d : Deed} (h : d.ok seats ns) : ∀ x ∈ d.ws, Plain x := fun x hx => by
  cases d with
  | keep =>
    have : x = sKeep := by simpa [Deed.ws] using hx
    subst this
    exact ⟨w_keep, by decide +kernel⟩
  | sell w p =>
    simp only [Deed.ws, List.mem_cons, List.not_mem_nil, or_false] at hx
    rcases hx with rfl | rfl | rfl | rfl
    · exact ⟨w_sell, by decide +kernel⟩
    · have hw : w.ok seats := h.1
      cases w with
      | seat x => exact plain_name (hs x hw)
      | place k => exact plain_num (by have := hw.2; omega)
    · exact ⟨w_at, by decide +kernel⟩
    · exact Pt.plain hn h.2
theorem row_noBE {seats ns : List Str} (hs : NamesOk seats) (hl : seats.length ≤ 9) (hn : NamesOk ns) {r : Row} (h : r.ok seats ns) : noBE (cs r.txt) = true := by
  obtain ⟨oc, d⟩ := r
  have hd := jn_noBE (Deed.plains hs hl hn h.1)
  cases oc with
  | none => exact hd.1
  | some c =>
    have hc := jn_noBE (Cond.plains hn (h.2 c rfl))
    show noBE (cs (c.txt ++ sColon ++ d.txt)) = true
    rw [cs_app, cs_app, cs_colon]
    exact noBE_app (noBE_app hc.1 rfl (by decide)) hd.1 hd.2
theorem cs_eq : cs sEq = [32, 61, 32] := by decide +kernel
theorem row_part_eq {seats ns : List Str} (hs : NamesOk seats) (hl : seats.length ≤ 9) (hn : NamesOk ns) {r : Row} (h : r.ok seats ns) : Txt.partition r.txt sEq = (r.txt, Str.empty, Str.empty) := by
  have hp := par_none (acc := []) (row_noBE hs hl hn h)
  rw [partition_par r.txt sEq (by rw [show tl sEq = [32, 61, 32] from cs_eq]; simp), show tl sEq = [32, 61, 32] from cs_eq, show par [32, 61, 32] [] (tl r.txt) = none from hp]
theorem line_part {x : Str} (h : NameOk x) (t : Str) : Txt.partition (x ++ sEq ++ t) sEq = (x, sEq, t) :=
  partition_app (s := 32) (S := [61, 32]) cs_eq fun z => ((word_name h).1 32 z).1 rfl
end Sb

set_option Elab.async false
set_option linter.all false
set_option maxRecDepth 100000
set_option autoImplicit false
namespace Sb
open PySem PySem.Spec PyProof.Rows L2 TL
abbrev s_lines_at_head : Stmt := top 39
abbrev N_lines_at_head : List Str := ["rows", "lines", "row", "name", "mark", "term"]
abbrev A_lines_at_head : List Str := ["rows"]
theorem sc_lines_at_head : FnScope N_lines_at_head A_lines_at_head (defScope s_lines_at_head) :=
  ⟨rfl, rfl, rfl, by decide +kernel, rfl, by decide +kernel, by decide +kernel⟩
abbrev s_Rule_read : Stmt := inClass (top 31) 1
abbrev N_Rule_read : List Str := ["cls", "text", "lines", "first", "word", "rest", "seats"]
abbrev A_Rule_read : List Str := ["cls", "text"]
theorem sc_Rule_read : FnScope N_Rule_read A_Rule_read (defScope s_Rule_read) :=
  ⟨rfl, rfl, rfl, by decide +kernel, rfl, by decide +kernel, by decide +kernel⟩
theorem split_nl {ts : List Str} (h : ts ≠ []) (hw : ∀ x ∈ ts, 10 ∉ cs x) : Txt.split (Txt.join sNl ts) sNl = ts := by
  have e := split_join (y := sNl) (s := 10) (S := []) (show tl sNl = [10] by decide +kernel) (by decide +kernel) h (fun p hp hm => hw p hp hm)
  first
    | exact e
    | (rw [join_eq]; exact e)
theorem jn_no10 {ws : List Str} (hw : ∀ x ∈ ws, Word x) : 10 ∉ cs (jn ws) := fun z => (jn_no hw z).2 rfl
theorem row_no10 {seats ns : List Str} (hs : NamesOk seats) (hl : seats.length ≤ 9) (hn : NamesOk ns) {r : Row} (h : r.ok seats ns) : 10 ∉ cs r.txt := by
  obtain ⟨oc, d⟩ := r
  have hd := jn_no10 (Deed.words hs hl hn h.1)
  cases oc with
  | none => exact hd
  | some c =>
    have hc := jn_no10 (Cond.words hn (h.2 c rfl))
    show 10 ∉ cs (c.txt ++ sColon ++ d.txt)
    rw [cs_app, cs_app, cs_colon]
    intro z
    rcases List.mem_append.mp z with z | z
    · rcases List.mem_append.mp z with z | z
      · exact hc z
      · simp at z
    · exact hd z
section
variable {P : Program} {w : World} {K : KX} {mg : Str → Option Value} {base : Heap} {aS aO C : Addr}
/-! ### the lines at a text's head -/
abbrev sp_lines_at_head (K : KX) : Sp := spX K (fun a : TextInL => [Dt.lst (strsD (a.ls.map lnT ++ a.rows.map Row.txt))]) TextInL.ok (fun a e => e = .tup (lnD (lnS a.ls)))
theorem ok_lines_at_head {f : Addr} {fd : FuncData} (F : Fun K "lines_at_head" "lines_at_head" s_lines_at_head f fd) (B : Bf K mg aS aO) : FnOk P w K mg base CX0 1 f fd A_lines_at_head (sp_lines_at_head K) := by
  refine fn_x F sc_lines_at_head (fun _ => rfl) fun cdv A outer s H E hr => ⟨_, (pss_cons (ps_set (i := 1) sc_lines_at_head.nd rfl (Or.inl rfl) (pe_lst pa_nil)) (pss_cons (ps_for PassesOwn.never rfl (pi_anyK (K := K) (pv 0)) (pg_name (i := 2) sc_lines_at_head.nd rfl (Or.inl rfl)) (pss_cons (ps_asg (pe_partition (pv 2) pe_str) (pg_tup rfl (pgs_cons (pg_name (i := 3) sc_lines_at_head.nd rfl (Or.inl rfl)) (pgs_cons (pg_name (i := 4) sc_lines_at_head.nd rfl (Or.inl rfl)) (pgs_cons (pg_name (i := 5) sc_lines_at_head.nd rfl (Or.inl rfl)) pgs_nil))))) (pss_cons (ps_if (pt_cmpR (op_eqK (K := K) hr.units) (pv 4) pe_str (nomark _)) (pss_one ps_break) pss_nil) (pss_one (ps_expr (pe_bm PySem.F.plainAttrs_list PySem.F.slot_list_append PySem.F.type_list_append mt_append (pv 1) (pa_cons (pe_tup (pa_cons (pv 3) (pa_cons (pv 5) pa_nil))) pa_nil))))))) (pss_one (ps_ret (pe_callTy (call_tupK (K := K)) (by rfl) B.n_tuple (by decide +kernel) (pa_cons (pv 1) pa_nil)))))), fun a ha => ?_⟩
  obtain ⟨seats, ls, rows⟩ := a
  have h1 : SeatsOk seats := ha.1
  have h2 : LinesOk seats ls := ha.2.1
  have h3 : RowsOk seats (seats ++ nmL ls) rows := ha.2.2
  have hn4 := h1.n4
  have hn6 := h3.n6
  have hr1 := h3.n1
  have hn8 := h2.n8
  have hel : sEq.length = 3 := by decide +kernel
  refine q_own fun p => ?_
  refine run_seq (N1 := fun G => ∃ s2 s3 s4 s5, G = [.da (.lst (strsD (ls.map lnT ++ rows.map Row.txt))), .ow p (lnD (lnS ls)), s2, s3, s4, s5])
    (run_forD (ds := strsD (ls.map lnT ++ rows.map Row.txt)) (fun i G => i ≤ ls.length ∧ ∃ s2 s3 s4 s5, G = [.da (.lst (strsD (ls.map lnT ++ rows.map Row.txt))), .ow p (lnD ((lnS ls).take i)), s2, s3, s4, s5] ∧ s2.ad = none ∧ s3.ad = none ∧ s4.ad = none ∧ s5.ad = none)
      (wk_any1 (d := .lst (strsD (ls.map lnT ++ rows.map Row.txt))) (eg_var rfl) rfl) ⟨Nat.zero_le _, .un, .un, .un, .un, rfl, rfl, rfl, rfl, rfl⟩ (fun i d G1 hd hI => ?_) fun G1 hI => ?_) fun G1 hG => ?_
  · obtain ⟨hi, s2, s3, s4, s5, rfl, a2, a3, a4, a5⟩ := hI
    obtain ⟨x, hx, rfl⟩ := strsD_get hd
    refine ⟨[2], _, gg_name (i := 2) rfl a2 (by simp), ?_⟩
    by_cases hlt : i < ls.length
    · have hl : ls[i]? = some ls[i] := List.getElem?_eq_getElem hlt
      rw [List.getElem?_append_left (by rw [List.length_map]; exact hlt), List.getElem?_map, hl] at hx
      have ex : lnT ls[i] = x := Option.some.inj hx
      subst ex
      have hm : ls[i] ∈ ls := List.getElem_mem hlt
      obtain ⟨t1, t2⟩ := term_len h1 h2 hm
      have hnm : NameOk ls[i].n := h2.ok _ (by unfold nmL; exact List.mem_map_of_mem hm)
      have hpt : Txt.partition (lnT ls[i]) sEq = (ls[i].n, sEq, ls[i].t.txt) := line_part hnm _
      have hll : (lnT ls[i]).length ≤ 100000 := by
        unfold lnT
        rw [Str.length_append, Str.length_append]
        omega
      generalize ls[i] = l at hl hm t1 t2 hnm hpt hll
      refine run_seq (N1 := (· = [.da (.lst (strsD (ls.map lnT ++ rows.map Row.txt))), .ow p (lnD ((lnS ls).take i)), .da (.str (lnT l)), .da (.str l.n), .da (.str sEq), .da (.str l.t.txt)])) (run_asg (p := (· = .tup [.str l.n, .str sEq, .str l.t.txt])) [3, 4, 5] (eg_m1 (x := lnT l) (y := .str sEq) (eg_var rfl) eg_str (rm_partition rfl hll (by rw [hpt]))) fun d e => ⟨_, by rw [e]; exact gg_three rfl a3 rfl a4 rfl a5 (by decide) (by decide) (by decide) (by simp) (by simp) (by simp), rfl⟩) fun G2 e => ?_
      subst e
      refine q_no (et_eq (et_tst1 (ed_eqS (i := sEq) (j := Str.empty) (eg_var rfl) eg_str)) (by decide +kernel)) ?_
      refine run_app (i := 1) (p := p) (ds := lnD ((lnS ls).take i)) (q := (· = .tup [.str l.n, .str l.t.txt])) rfl (ed_tup (ea_2 (eg_var rfl) (eg_var rfl))) (by rw [lnD_len, List.length_take, lnS_len]; omega) fun d e => ?_
      subst e
      refine ⟨by omega, .da (.str (lnT l)), .da (.str l.n), .da (.str sEq), .da (.str l.t.txt), ?_, rfl, rfl, rfl, rfl⟩
      have et : lnD ((lnS ls).take (i + 1)) = lnD ((lnS ls).take i) ++ [.tup [.str l.n, .str l.t.txt]] := by
        have hg : (lnS ls)[i]? = some (l.n, l.t.txt) := by unfold lnS; rw [List.getElem?_map, hl]; rfl
        unfold lnD
        rw [List.take_add_one, hg, List.map_append]
        rfl
      rw [et]
      rfl
    · have ei : i = ls.length := by omega
      rw [List.getElem?_append_right (by rw [List.length_map]; omega), List.getElem?_map] at hx
      cases hr' : rows[i - (ls.map lnT).length]? with
      | none => rw [hr'] at hx; cases hx
      | some r =>
        rw [hr'] at hx
        have ex : r.txt = x := Option.some.inj hx
        subst ex
        have hrm := List.mem_of_getElem? hr'
        have hpt := row_part_eq h1.ok (by omega) (names_ok h1 h2) (h3.ok r hrm)
        have hrl := row_len h1.ok (by omega) (names_ok h1 h2) (h3.ok r hrm)
        refine run_seq (N1 := (· = [.da (.lst (strsD (ls.map lnT ++ rows.map Row.txt))), .ow p (lnD ((lnS ls).take i)), .da (.str r.txt), .da (.str r.txt), .da (.str Str.empty), .da (.str Str.empty)])) (run_asg (p := (· = .tup [.str r.txt, .str Str.empty, .str Str.empty])) [3, 4, 5] (eg_m1 (x := r.txt) (y := .str sEq) (eg_var rfl) eg_str (rm_partition rfl (by omega) (by rw [hpt]))) fun d e => ⟨_, by rw [e]; exact gg_three rfl a3 rfl a4 rfl a5 (by decide) (by decide) (by decide) (by simp) (by simp) (by simp), rfl⟩) fun G2 e => ?_
        subst e
        refine q_yes (et_eq (et_tst1 (ed_eqS (i := Str.empty) (j := Str.empty) (eg_var rfl) eg_str)) (decide_eq_true rfl)) (run_brk ?_)
        refine ⟨.da (.str r.txt), .da (.str r.txt), .da (.str Str.empty), .da (.str Str.empty), ?_⟩
        rw [ei, show (lnS ls).take ls.length = lnS ls by rw [← lnS_len, List.take_length]]
  · obtain ⟨hi, _⟩ := hI
    rw [strsD_len, List.length_append, List.length_map, List.length_map] at hi
    omega
  · obtain ⟨s2, s3, s4, s5, rfl⟩ := hG
    exact run_ret (eg_tupO (p := p) rfl)
/-! ### a rule read from its text -/
theorem joinL_lenB {s b : Nat} : ∀ {ps : List (List Nat)}, (∀ p ∈ ps, p.length ≤ b) → (joinL [s] ps).length ≤ (b + 1) * ps.length
  | [], _ => Nat.zero_le _
  | [p], h => by
    have := h p (by simp)
    show p.length ≤ (b + 1) * 1
    omega
  | p :: q :: ps, h => by
    have h1 := h p (by simp)
    have h2 := joinL_lenB (s := s) (ps := q :: ps) fun r hr => h r (List.mem_cons_of_mem _ hr)
    have e : (joinL [s] (p :: q :: ps)).length = p.length + (1 + (joinL [s] (q :: ps)).length) := by
      first
        | (show (p ++ ([s] ++ joinL [s] (q :: ps))).length = _; rw [List.length_append, List.length_append]; rfl)
        | (simp only [joinL, List.append_assoc, List.length_append]; rfl)
    rw [e, List.length_cons, Nat.mul_succ]
    omega
theorem texts_len {seats : List Str} {ls : List Ln} {rows : List Row} (h1 : SeatsOk seats) (h2 : LinesOk seats ls) (h3 : RowsOk seats (seats ++ nmL ls) rows) : ∀ x ∈ textsL seats ls rows, x.length ≤ 200 := fun x hx => by
  have hn4 := h1.n4
  have hj : (jn seats).length ≤ 21 * seats.length := jn_len fun x hx => word_name (h1.ok x hx)
  have hsl : sSeats.length = 6 := by decide +kernel
  have hel : sEq.length = 3 := by decide +kernel
  rcases List.mem_cons.mp hx with z | z
  · rw [z, Str.length_append]
    omega
  · rcases List.mem_append.mp z with z | z
    · obtain ⟨l, hl, rfl⟩ := List.mem_map.mp z
      obtain ⟨t1, t2⟩ := term_len h1 h2 hl
      show (l.n ++ sEq ++ l.t.txt).length ≤ 200
      rw [Str.length_append, Str.length_append]
      omega
    · obtain ⟨r, hr, rfl⟩ := List.mem_map.mp z
      exact row_len h1.ok (by omega) (names_ok h1 h2) (h3.ok r hr)
theorem text_len {seats : List Str} {ls : List Ln} {rows : List Row} (h1 : SeatsOk seats) (h2 : LinesOk seats ls) (h3 : RowsOk seats (seats ++ nmL ls) rows) : (Txt.join sNl (textsL seats ls rows)).length ≤ 100000 := by
  have e := tl_join sNl (textsL seats ls rows)
  rw [show tl sNl = [10] by decide +kernel] at e
  have hb := joinL_lenB (s := 10) (b := 200) (ps := (textsL seats ls rows).map tl) fun p hp => by
    obtain ⟨x, hx, rfl⟩ := List.mem_map.mp hp
    have := texts_len h1 h2 h3 x hx
    rw [len_cs] at this
    exact this
  rw [List.length_map] at hb
  have hl : (textsL seats ls rows).length = rows.length + ls.length + 1 := by
    unfold textsL
    rw [List.length_cons, List.length_append, List.length_map, List.length_map]
    omega
  have h6 := h3.n6
  have h8 := h2.n8
  rw [hl] at hb
  rw [len_cs, join_eq]
  have : (tl (Str.join sNl (textsL seats ls rows))).length ≤ 100000 := by
    rw [e]
    omega
  exact this
def sSeats0 : Str := "seats"
theorem seats_jn (seats : List Str) (h : seats ≠ []) : sSeats ++ jn seats = jn (sSeats0 :: seats) := by
  cases seats with
  | nil => exact absurd rfl h
  | cons a r =>
    rw [jn_cons]
    have e : sSeats = sSeats0 ++ sp1 := by decide +kernel
    rw [e]
theorem w_seats0 : Word sSeats0 := (decW _).mpr (by decide +kernel)
abbrev sp_read (K : KX) (C : Addr) : Sp := spC K C (fun a : TextInL => [Dt.str (Txt.join sNl (textsL a.seats a.ls a.rows))]) TextInL.ok (fun a e => e = .obj C (ruleL a.seats a.ls a.rows))
theorem drop_nat {ds : List Dt} {k : Nat} (h : k ≤ ds.length) : cutD ds (some (k : Int)) none = ds.drop k := by
  unfold cutD
  rw [HT.sIx_none, HT.sIx_nat, Nat.min_eq_left h]
  exact List.take_of_length_le (by rw [List.length_drop]; exact Nat.le_refl _)
theorem ok_Rule_read {f : Addr} {fd : FuncData} (F : Fun K "read" "Rule.read" s_Rule_read f fd) (B : Bf K mg aS aO) (c_lines_at_head : Cal P w K mg base 1 "lines_at_head" (sp_lines_at_head K)) (c_Rule : Mak P w K mg base 6 "Rule" C (sp_RuleL K C)) : FnOk P w K mg base CX0 8 f fd A_Rule_read (sp_read K C) := by
  refine fn_c F sc_Rule_read (fun _ => rfl) fun cdv A outer s H E hr => ⟨_, (pss_cons (ps_if (pt_not (pt_val (pe_callB (call_isiQ (K := K)) (by rfl) B.n_isinstance (by decide +kernel) (pa_cons (pv 1) (pa_cons (pe_bltn (v := .ty "str") (by rfl) B.n_str (by decide +kernel) rfl) pa_nil))))) (pss_one ps_never) pss_nil) (pss_cons (ps_asg (pe_split (pv 1) pe_str) (pg_star (i := 3) (j := 5) rfl sc_Rule_read.nd rfl rfl (Or.inl rfl) (Or.inl rfl))) (pss_cons (ps_asg (pe_split (pv 3) pe_str) (pg_star (i := 4) (j := 6) rfl sc_Rule_read.nd rfl rfl (Or.inl rfl) (Or.inl rfl))) (pss_cons (ps_if (pt_cmpR (op_neK (K := K) hr.units) (pv 4) pe_str (nomark _)) (pss_one ps_never) pss_nil) (pss_cons (ps_set (i := 2) sc_Rule_read.nd rfl (Or.inl rfl) (pe_c c_lines_at_head hr (by decide) (by rfl) (pa_cons (pv 5) pa_nil))) (pss_one (ps_try_thru0 (pss_one (ps_ret (pe_mkV (i := 0) c_Rule hr (by decide) (pa_cons (pe_callTy (call_tupK (K := K)) (by rfl) B.n_tuple (by decide +kernel) (pa_cons (pv 6) pa_nil)) (pa_cons (pv 2) (pa_cons (pe_callTy (call_tupK (K := K)) (by rfl) B.n_tuple (by decide +kernel) (pa_cons (pe_slice (sl_anyK (K := K)) (pv 5) (po_some (pe_callB (call_lenK (K := K)) (by rfl) B.n_len (by decide +kernel) (pa_cons (pv 2) pa_nil))) po_none) pa_nil)) pa_nil))))))))))))), fun a ha => ?_⟩
  obtain ⟨seats, ls, rows⟩ := a
  have h1 : SeatsOk seats := ha.1
  have h2 : LinesOk seats ls := ha.2.1
  have h3 : RowsOk seats (seats ++ nmL ls) rows := ha.2.2
  have hn4 := h1.n4
  have hn1 := h1.n1
  have hn6 := h3.n6
  have hn8 := h2.n8
  have hne : seats ≠ [] := fun z => by rw [z] at hn1; simp at hn1
  have hwords : ∀ x ∈ sSeats0 :: seats, Word x := fun x hx => by
    rcases List.mem_cons.mp hx with e | hx
    · rw [e]; exact w_seats0
    · exact word_name (h1.ok x hx)
  have h10 : ∀ x ∈ textsL seats ls rows, 10 ∉ cs x := fun x hx => by
    rcases List.mem_cons.mp hx with e | hx
    · rw [e, seats_jn seats hne]
      exact jn_no10 hwords
    · rcases List.mem_append.mp hx with z | z
      · obtain ⟨l, hl, rfl⟩ := List.mem_map.mp z
        obtain ⟨i, hi⟩ := List.mem_iff_getElem?.mp hl
        have hn : NamesOk (seats ++ (nmL ls).take i) := fun x hx => by
          rcases List.mem_append.mp hx with z | z
          · exact h1.ok x z
          · exact h2.ok x (List.mem_of_mem_take z)
        have ht := jn_no10 (Term.words hn (h2.tm i l hi))
        have hnm : NameOk l.n := h2.ok _ (by unfold nmL; exact List.mem_map_of_mem hl)
        unfold lnT
        rw [cs_app, cs_app, cs_eq]
        intro q
        rcases List.mem_append.mp q with q | q
        · rcases List.mem_append.mp q with q | q
          · exact ((word_name hnm).1 10 q).2.2 rfl
          · simp at q
        · exact ht q
      · obtain ⟨r, hr, rfl⟩ := List.mem_map.mp z
        exact row_no10 h1.ok (by omega) (names_ok h1 h2) (h3.ok r hr)
  have hsp := split_nl (ts := textsL seats ls rows) (by simp [textsL]) h10
  have hsp2 : Txt.split (sSeats ++ jn seats) sp1 = sSeats0 :: seats := by
    rw [seats_jn seats hne]
    exact split_jn (by simp) hwords
  have hl0 : (sSeats ++ jn seats).length ≤ 200 := texts_len h1 h2 h3 _ (by simp [textsL])
  refine q_no (et_eq (et_not1 (a := true) (et_B1 (eg_isi (d := .str (Txt.join sNl (textsL seats ls rows))) (eg_var rfl) rfl (by decide +kernel)))) rfl) ?_
  refine run_seq (N1 := (· = [.rf C, .da (.str (Txt.join sNl (textsL seats ls rows))), .un, .da (.str (sSeats ++ jn seats)), .un, .da (.lst (strsD (ls.map lnT ++ rows.map Row.txt))), .un]))
    (run_star (i := 3) (j := 5) (d := .str (sSeats ++ jn seats)) (ds := strsD (ls.map lnT ++ rows.map Row.txt)) (eg_m1 (x := Txt.join sNl (textsL seats ls rows)) (y := .str sNl) (eg_var rfl) eg_str (rm_split rfl (text_len h1 h2 h3) (by rw [hsp]; rfl))) rfl rfl rfl rfl (by decide) (by rw [strsD_len, List.length_append, List.length_map, List.length_map]; omega) rfl) fun G1 e => ?_
  subst e
  refine run_seq (N1 := (· = [.rf C, .da (.str (Txt.join sNl (textsL seats ls rows))), .un, .da (.str (sSeats ++ jn seats)), .da (.str sSeats0), .da (.lst (strsD (ls.map lnT ++ rows.map Row.txt))), .da (.lst (strsD seats))]))
    (run_star (i := 4) (j := 6) (d := .str sSeats0) (ds := strsD seats) (eg_m1 (x := sSeats ++ jn seats) (y := .str sp1) (eg_var rfl) eg_str (rm_split rfl (by omega) (by rw [hsp2]; rfl))) rfl rfl rfl rfl (by decide) (by rw [strsD_len]; omega) rfl) fun G1 e => ?_
  subst e
  refine q_no (et_eq (et_tst1 (ed_neS (i := sSeats0) (j := sSeats0) (eg_var rfl) eg_str)) (by rw [decide_eq_true rfl]; rfl)) ?_
  refine q_set (d := .tup (lnD (lnS ls))) (ed_callX (out := fun a : TextInL => Dt.tup (lnD (lnS a.ls))) ⟨seats, ls, rows⟩ (ea_1 (eg_var rfl)) ⟨h1, h2, h3⟩) ?_
  have hdl : (strsD (ls.map lnT ++ rows.map Row.txt)).drop ls.length = txD rows := by
    unfold txD strsD
    rw [List.map_append, List.drop_append_of_le_length (by rw [List.length_map, List.length_map]; omega), List.drop_of_length_le (by rw [List.length_map, List.length_map]; omega)]
    rfl
  have hlen : Eg K [] [.rf C, .da (.str (Txt.join sNl (textsL seats ls rows))), .da (.tup (lnD (lnS ls))), .da (.str (sSeats ++ jn seats)), .da (.str sSeats0), .da (.lst (strsD (ls.map lnT ++ rows.map Row.txt))), .da (.lst (strsD seats))] (tCB (rLenA K) (tCons (tVar 2) tNil)) (· = .int (ls.length : Int)) :=
    ed_cb (ea_1 (eg_var rfl)) (rc_len (n := ls.length) (d := .tup (lnD (lnS ls))) (by show some _ = some _; rw [lnD_len, lnS_len]) (by omega) rfl)
  exact run_ret (eg_makeV (px := (· = [.tup (strsD seats), .tup (lnD (lnS ls)), .tup (txD rows)])) rfl (ea_3 (ed_cb (ea_1 (eg_var rfl)) (rc_tupL rfl)) (eg_var rfl) (ed_cb (ea_1 (eg_eq (eg_slL (eg_var rfl) (eo_some hlen) eo_none) (by rw [drop_nat (by rw [strsD_len, List.length_append, List.length_map]; omega), hdl]))) (rc_tupL rfl))) fun ds e => ⟨⟨seats, ls, rows⟩, e, ⟨h1, h2, h3⟩, rfl⟩)
end
end Sb

set_option Elab.async false
set_option linter.all false
set_option maxRecDepth 100000
set_option autoImplicit false
namespace Sb
open PySem PySem.Spec PyProof.Rows L2 TL
abbrev s__law_take : Stmt := top 48
abbrev N__law_take : List Str := ["_law_source_here", "_law_size", "_law_seed", "_law_by", "_law_digit"]
abbrev A__law_take : List Str := ["_law_source_here", "_law_size"]
theorem sc__law_take : FnScope N__law_take A__law_take (defScope s__law_take) :=
  ⟨rfl, rfl, rfl, by decide +kernel, rfl, by decide +kernel, by decide +kernel⟩
abbrev s__law_names : Stmt := top 49
abbrev N__law_names : List Str := ["_law_source_here", "_law_size", "_law_words_here", "_law_k", "_law_signs", "_law_found", "_law_label", "_law_j", "_law_way", "_law_letter", "_law_spare"]
abbrev A__law_names : List Str := ["_law_source_here", "_law_size"]
theorem sc__law_names : FnScope N__law_names A__law_names (defScope s__law_names) :=
  ⟨rfl, rfl, rfl, by decide +kernel, rfl, by decide +kernel, by decide +kernel⟩
section
variable {P : Program} {w : World} {K : KX} {mg : Str → Option Value} {base : Heap} {aS aO C : Addr}
abbrev sp_take (K : KX) : Sp := spXS K (fun n : Nat => [Dt.int (n : Int)]) (fun n => 0 < n ∧ n ≤ 1000000000) (fun n e => ∃ r : Nat, e = .int (r : Int) ∧ r < n)
theorem ok__law_take {f : Addr} {fd : FuncData} (F : Fun K "_law_take" "_law_take" s__law_take f fd) (B : Bf K mg aS aO) : FnOk P w K mg base CX0 1 f fd A__law_take (sp_take K) := by
  refine fn_xs F sc__law_take (fun _ => rfl) fun cdv A outer s H E hr => ⟨_, (pss_cons (ps_set (i := 2) sc__law_take.nd rfl (Or.inl rfl) (pe_callTy call_intA (by rfl) B.n_int (by decide +kernel) (pa_cons (pe_ix (ix_anyK (K := K)) (pv 0) pe_int (fun _ _ => rfl)) pa_nil))) (pss_cons (ps_asg (pe_op (op_addK (K := K)) (pe_ix (ix_anyK (K := K)) (pv 0) pe_int (fun _ _ => rfl)) pe_int) (pg_sub (pv 0) pe_int set_list)) (pss_cons (ps_set (i := 3) sc__law_take.nd rfl (Or.inl rfl) (pe_op (op_addK (K := K)) (pe_op op_mod (pe_callTy call_intA (by rfl) B.n_int (by decide +kernel) (pa_cons (pv 2) pa_nil)) pe_int) pe_int)) (pss_cons (ps_asg (pe_op op_mod (pe_callTy call_intA (by rfl) B.n_int (by decide +kernel) (pa_cons (pe_op (op_addK (K := K)) (pe_op (op_addK (K := K)) (pe_op op_mul (pv 2) (pv 3)) (pe_op op_mul pe_int (pe_ix (ix_anyK (K := K)) (pv 0) pe_int (fun _ _ => rfl)))) pe_int) pa_nil)) pe_int) (pg_sub (pv 0) pe_int set_list)) (pss_cons (ps_if (pt_cmpR op_gt (pe_ix (ix_anyK (K := K)) (pv 0) pe_int (fun _ _ => rfl)) pe_int (nomark _)) (pss_cons (ps_asg (pe_callB call_divmod (by rfl) B.n_divmod (by decide +kernel) (pa_cons (pe_ix (ix_anyK (K := K)) (pv 0) pe_int (fun _ _ => rfl)) (pa_cons (pv 1) pa_nil))) (pg_tup rfl (pgs_cons (pg_sub (pv 0) pe_int set_list) (pgs_cons (pg_name (i := 4) sc__law_take.nd rfl (Or.inl rfl)) pgs_nil)))) (pss_one (ps_ret (pv 4)))) pss_nil) (pss_one (ps_ret (pe_op op_mod (pe_callTy call_intA (by rfl) B.n_int (by decide +kernel) (pa_cons (pe_op op_fdiv (pe_ix (ix_anyK (K := K)) (pv 0) pe_int (fun _ _ => rfl)) pe_int) pa_nil)) (pv 1))))))))), fun p n hn => ?_⟩
  have n0 : 0 < n := hn.1
  have n1 : n ≤ 1000000000 := hn.2
  refine q_setP (p := isI) (ei_to (ei_int (p := fun _ => True) (ei_of (eg_src rfl (.inr (.inl rfl)))))) fun d hd => ?_
  obtain ⟨sd, rfl⟩ := hd
  refine run_seq (N1 := (· = [.sr p, .da (.int (n : Int)), .da (.int sd), .un, .un])) (run_srcSet rfl (.inr (.inr rfl)) (ei_to (ei_add (p := fun _ => True) (q := fun _ => True) (r := fun _ => True) (ei_of (eg_src rfl (.inr (.inr rfl)))) (ei_of (eg_imp eg_int fun d e => ⟨_, e⟩)) fun _ _ _ _ => trivial)) rfl) fun G1 e => ?_
  subst e
  refine q_set (d := .int (sd % 30011 + 40009)) (ed_addI (ed_mod (ed_cb (ea_1 (eg_var rfl)) (rc_intI rfl)) eg_int (by decide)) eg_int) ?_
  have b1 := Int.emod_nonneg sd (b := 30011) (by decide)
  have b2 := Int.emod_lt_of_pos sd (b := 30011) (by decide)
  refine run_seq (N1 := (· = [.sr p, .da (.int (n : Int)), .da (.int sd), .da (.int (sd % 30011 + 40009)), .un])) (run_srcSet rfl (.inr (.inl rfl)) (ei_to (ei_opI (p := fun _ => True) (q := fun j => 0 < j) (r := fun _ => True) (ei_int (p := fun _ => True)
    (ei_add (p := fun _ => True) (q := fun _ => True) (r := fun _ => True) (ei_add (p := fun _ => True) (q := fun _ => True) (r := fun _ => True) (ei_of (eg_imp (ed_mul (eg_var rfl) (eg_var rfl) (.inr ⟨by omega, by omega⟩)) fun d e => ⟨_, e⟩))
      (ei_opI (p := fun i => i = 70001) (q := fun _ => True) (r := fun _ => True) (ei_eq eg_int) (ei_of (eg_src rfl (.inr (.inr rfl)))) (fun i j e _ => .inl ⟨by rw [e]; decide, by rw [e]; decide⟩) fun _ _ _ _ => trivial) fun _ _ _ _ => trivial)
      (ei_of (eg_imp eg_int fun d e => ⟨_, e⟩)) fun _ _ _ _ => trivial)) (eg_imp eg_int fun d e => ⟨_, e, by decide⟩) (fun _ _ _ h => h) fun _ _ _ _ => trivial)) rfl) fun G1 e => ?_
  subst e
  refine run_seq (N1 := (· = [.sr p, .da (.int (n : Int)), .da (.int sd), .da (.int (sd % 30011 + 40009)), .un])) (run_if (p := fun _ => True) (et_gt (p := fun _ => True) (q := fun _ => True) (ei_of (eg_src rfl (.inl rfl))) (ei_of (eg_imp eg_int fun d e => ⟨_, e⟩)) fun _ _ _ _ => trivial) (fun _ => ?_) fun _ => run_next rfl) fun G1 e => ?_
  · refine run_seq (N1 := fun G => ∃ r : Nat, r < n ∧ G = [.sr p, .da (.int (n : Int)), .da (.int sd), .da (.int (sd % 30011 + 40009)), .da (.int (r : Int))]) (run_srcDm (q := fun r => ∃ j : Nat, r = (j : Int) ∧ j < n) rfl rfl rfl (eg_cb (ea_2p (eg_src rfl (.inl rfl)) (eg_var rfl)) fun ds ⟨x, y, ⟨i, ei⟩, ey, e⟩ => ?_) fun r ⟨j, ej, hj⟩ => ⟨j, hj, by rw [ej]; rfl⟩) fun G1 hG => ?_
    · subst e ei ey
      exact rc_dm ⟨by omega, by omega⟩ ⟨_, _, rfl, nat_mod n0⟩
    · obtain ⟨r, hr, rfl⟩ := hG
      exact run_ret (eg_imp (eg_var rfl) fun d e => ⟨r, e, hr⟩)
  · subst e
    refine run_ret (eg_imp (ei_opI (p := fun _ => True) (q := fun j => j = (n : Int)) (r := fun k => ∃ r : Nat, k = (r : Int) ∧ r < n) (ei_int (p := fun _ => True) (ei_opI (p := fun _ => True) (q := fun j => j = 97) (r := fun _ => True) (ei_of (eg_src rfl (.inr (.inl rfl)))) (ei_eq eg_int) (fun i j _ e => ⟨by rw [e]; decide, by rw [e]; decide⟩) fun _ _ _ _ => trivial)) (ei_eq (eg_var rfl)) (fun i j _ e => by rw [e]; omega) fun i j _ e => by rw [e]; exact nat_mod n0) fun d ⟨k, e, r, er, hr⟩ => ⟨r, by rw [e, er], hr⟩)
theorem ed_take {S : List Addr} {G : List Sl} {i : Nat} {p : Addr} {te : TE} {n : Nat} (hi : G[i]? = some (.sr p)) (he : Eg K S G te (· = .int (n : Int))) (h0 : 0 < n) (h1 : n ≤ 1000000) : Eg K S G (tCall (sp_take K) [] E0 (tCons (tVar i) (tCons te tNil))) (fun d => ∃ r : Nat, d = .int (r : Int) ∧ r < n) :=
  eg_callXS hi (ea_1 he) fun ds e => ⟨n, e, ⟨h0, Nat.le_trans h1 (by decide)⟩, fun d h => h⟩
theorem ed_takeB {S : List Addr} {G : List Sl} {i : Nat} {p : Addr} {te : TE} {n : Nat} (hi : G[i]? = some (.sr p)) (he : Eg K S G te (· = .int (n : Int))) (h0 : 0 < n) (h1 : n ≤ 1000000000) : Eg K S G (tCall (sp_take K) [] E0 (tCons (tVar i) (tCons te tNil))) (fun d => ∃ r : Nat, d = .int (r : Int) ∧ r < n) :=
  eg_callXS hi (ea_1 he) fun ds e => ⟨n, e, ⟨h0, h1⟩, fun d h => h⟩
abbrev sp_lnames (K : KX) : Sp := spXS K (fun n : Nat => [Dt.int (n : Int)]) (fun n => n ≤ 20) (fun n e => ∃ names : List Str, e = .lst (strsD names) ∧ names.length = n ∧ NamesOk names ∧ names.Nodup)
def GN (p : Addr) (n : Nat) (s2 s3 : Sl) (r : Addr) (names : List Str) (s6 s7 s8 s9 : Sl) : List Sl := [.sr p, .da (.int (n : Int)), s2, s3, .da (.str sSig), .ow r (strsD names), s6, s7, s8, s9, .un]
theorem ok__law_names {f : Addr} {fd : FuncData} (F : Fun K "_law_names" "_law_names" s__law_names f fd) (B : Bf K mg aS aO) (c__law_take : Cal P w K mg base 1 "_law_take" (sp_take K)) : FnOk P w K mg base CX0 2 f fd A__law_names (sp_lnames K) := by
  refine fn_xs F sc__law_names (fun _ => rfl) fun cdv A outer s H E hr => ⟨_, (pss_cons (ps_asg (pe_tup (pa_cons pe_str (pa_cons (pe_lst pa_nil) pa_nil))) (pg_tup rfl (pgs_cons (pg_name (i := 4) sc__law_names.nd rfl (Or.inl rfl)) (pgs_cons (pg_name (i := 5) sc__law_names.nd rfl (Or.inr rfl)) pgs_nil)))) (pss_cons (ps_set (i := 2) sc__law_names.nd rfl (Or.inl rfl) (pe_lst (pa_cons pe_str (pa_cons pe_str (pa_cons pe_str (pa_cons pe_str (pa_cons pe_str (pa_cons pe_str (pa_cons pe_str pa_nil))))))))) (pss_cons (ps_for PassesOwn.never rfl (pi_range1 rfl B.n_range (pa_cons (pv 1) pa_nil)) (pg_name (i := 3) sc__law_names.nd rfl (Or.inl rfl)) (pss_cons (ps_par (i := 8) (j := 9) rfl sc__law_names.nd rfl rfl (by decide) rfl rfl (pa_cons (pe_c c__law_take hr (by decide) (by rfl) (pa_cons (pv 0) (pa_cons pe_int pa_nil))) (pa_cons (pe_ix (ix_anyK (K := K)) (pv 4) (pe_c c__law_take hr (by decide) (by rfl) (pa_cons (pv 0) (pa_cons pe_int pa_nil))) (fun _ _ => rfl)) pa_nil)) rfl) (pss_cons (ps_set (i := 6) sc__law_names.nd rfl (Or.inl rfl) (pe_ifExp (pt_cmpR (op_eqK (K := K) hr.units) (pv 8) pe_int (nomark _)) (pe_ix (ix_anyK (K := K)) (pv 2) (pe_c c__law_take hr (by decide) (by rfl) (pa_cons (pv 0) (pa_cons pe_int pa_nil))) (fun _ _ => rfl)) (pv 9))) (pss_cons (ps_for PassesOwn.never rfl (pi_range1 rfl B.n_range (pa_cons (pe_ix (ix_anyK (K := K)) (pe_lst (pa_cons pe_int (pa_cons pe_int (pa_cons pe_int (pa_cons (pe_c c__law_take hr (by decide) (by rfl) (pa_cons (pv 0) (pa_cons pe_int pa_nil))) pa_nil))))) (pv 8) (fun _ _ => rfl)) pa_nil)) (pg_name (i := 7) sc__law_names.nd rfl (Or.inl rfl)) (pss_one (ps_set (i := 6) sc__law_names.nd rfl (Or.inl rfl) (pe_op (op_addK (K := K)) (pv 6) (pe_ix (ix_anyK (K := K)) (pv 4) (pe_c c__law_take hr (by decide) (by rfl) (pa_cons (pv 0) (pa_cons pe_int pa_nil))) (fun _ _ => rfl)))))) (pss_cons (ps_if (pt_cmpR (op_inK (K := K)) (pv 6) (pv 5) rfl) (pss_one (ps_set (i := 6) sc__law_names.nd rfl (Or.inl rfl) (pe_ix (ix_anyK (K := K)) (pe_lc (own := [("_law_spare", 10)]) (g := gName 10) (by rfl) sc__law_names.nd (pi_anyK (K := K) (pe_slice (sl_anyK (K := K)) (pv 4) po_none (po_some pe_int))) (blkOk_by (own := [("_law_spare", 10)]) (N := N__law_names) (sc := defScope s__law_names) (by decide +kernel)) (fun _ _ _ _ _ => (pg_name (i := 10) sc__law_names.nd rfl (Or.inl rfl))) (fun _ _ _ _ _ => (pts_one (pt_cmpR (op_niK (K := K)) (pv 10) (pv 5) rfl))) (fun _ _ _ _ _ => (pv 10))) pe_int (fun _ _ => rfl)))) pss_nil) (pss_one (ps_expr (pe_bm PySem.F.plainAttrs_list PySem.F.slot_list_append PySem.F.type_list_append mt_append (pv 5) (pa_cons (pv 6) pa_nil))))))))) (pss_one (ps_ret (pv 5)))))), fun p n hn => ?_⟩
  have hn : n ≤ 20 := hn
  refine run_seq (N1 := fun G => ∃ r, G = GN p n .un .un r [] .un .un .un .un) (run_asgO (p := (· = .str sSig)) eg_str rfl rfl rfl rfl (by decide) fun d r e => ⟨r, by rw [e]; rfl⟩) fun G1 hG => ?_
  obtain ⟨r, rfl⟩ := hG
  refine q_set (d := .lst (strsD wordsL)) (ed_lst (ea_S (ea_S (ea_S (ea_S (ea_S (ea_S (ea_S ea_0))))))) (by rw [strsD_len]; decide)) ?_
  refine run_seq (N1 := fun G => ∃ names s3 s6 s7 s8 s9, G = GN p n (.da (.lst (strsD wordsL))) s3 r names s6 s7 s8 s9 ∧ names.length = n ∧ NamesOk names ∧ names.Nodup) (run_forD (ds := rng 0 n)
    (fun i G => ∃ names s3 s6 s7 s8 s9, G = GN p n (.da (.lst (strsD wordsL))) s3 r names s6 s7 s8 s9 ∧ (s3.ad = none ∧ s6.ad = none ∧ s7.ad = none ∧ s8.ad = none ∧ s9.ad = none) ∧ names.length = i ∧ NamesOk names ∧ names.Nodup)
    (wk_range1 (n := (n : Int)) (ea_1 (eg_var rfl)) (by omega) (by omega)) ⟨[], .un, .un, .un, .un, .un, rfl, ⟨rfl, rfl, rfl, rfl, rfl⟩, rfl, fun x hx => (by cases hx), List.nodup_nil⟩ (fun i d G1 hd hI => ?_) fun G1 hI => ?_) fun G1 hG => ?_
  · obtain ⟨names, s3, s6, s7, s8, s9, rfl, ⟨a3, a6, a7, a8, a9⟩, hlen, hok, hnd⟩ := hI
    obtain ⟨hi, rfl⟩ := rng_get hd
    refine ⟨[3], _, gg_name (i := 3) rfl a3 (by simp), ?_⟩
    refine run_seq (N1 := fun G => ∃ (wy c : Nat), G = GN p n (.da (.lst (strsD wordsL))) (.da (.int (0 + (i : Int)))) r names s6 s7 (.da (.int (wy : Int))) (.da (.str ⟨#[c]⟩)) ∧ wy < 4 ∧ isLet c)
      (run_par (p := fun d => ∃ r : Nat, d = .int (r : Int) ∧ r < 4) (q := fun d => ∃ c, d = .str ⟨#[c]⟩ ∧ isLet c) (ed_take (n := 4) rfl eg_int (by decide) (by decide))
        (eg_op (px := (· = .str sSig)) (eg_var rfl) (ed_take (n := 26) rfl eg_int (by decide) (by decide)) fun x y ex ⟨r, ey, hr⟩ => by
          subst ex ey
          exact r2_ixAS (by rw [sig_len]; decide) (sig_let hr) ⟨_, rfl, by unfold isLet; omega⟩)
        rfl a8 rfl a9 (by decide) fun d e ⟨wy, ed, hw⟩ ⟨c, ee, hc⟩ => ⟨wy, c, by rw [ed, ee]; rfl, hw, hc⟩) fun G2 hG => ?_
    obtain ⟨wy, c, rfl, hw, hc⟩ := hG
    refine q_setP (i := 6) (s := s6) (p := fun d => ∃ x, d = .str x ∧ NameOk x ∧ (wy ≠ 0 → x.length = 1)) (eg_if (p := (· = decide ((wy : Int) = 0))) (et_tst1 (ed_eqI (eg_var rfl) eg_int)) (fun z => ?_) fun z => ?_) (fun d hd => ?_) rfl a6
    · have wz : wy = 0 := by
        have := of_decide_eq_true z.symm
        omega
      refine eg_op (px := (· = .lst (strsD wordsL))) (eg_var rfl) (ed_take (n := 7) rfl eg_int (by decide) (by decide)) fun x y ex ⟨r, ey, hr⟩ => ?_
      subst ex ey
      obtain ⟨x, _, hm, hx⟩ := strs_at (xs := wordsL) (r := r) hr
      exact r2_ixAL hx ⟨x, rfl, words_ok x hm, fun z => absurd wz z⟩
    · exact eg_imp (eg_var rfl) fun d e => ⟨_, e, name_one hc, fun _ => rfl⟩
    · obtain ⟨x, rfl, hx, hx1⟩ := hd
      refine run_seq (N1 := fun G => ∃ y s7', G = GN p n (.da (.lst (strsD wordsL))) (.da (.int (0 + (i : Int)))) r names (.da (.str y)) s7' (.da (.int (wy : Int))) (.da (.str ⟨#[c]⟩)) ∧ NameOk y ∧ s7'.ad = none)
        (run_for (p := fun ds => ∃ m : Nat, ds = rng 0 m ∧ x.length + m ≤ 8) (wk_rng1 ?_) fun ds hds => ?_) fun G3 hG => ?_
      · refine ea_cons (px := fun d => ∃ m : Nat, d = .int (m : Int) ∧ x.length + m ≤ 8) (eg_op (px := fun d => ∃ t : Nat, t < 8 ∧ d = .lst [.int 0, .int 0, .int 1, .int (t : Int)]) (py := (· = .int (wy : Int))) (eg_lst (px := fun ds => ∃ t : Nat, t < 8 ∧ ds = [.int 0, .int 0, .int 1, .int (t : Int)])
            (ea_cons (py := fun ds => ∃ t : Nat, t < 8 ∧ ds = [.int 0, .int 1, .int (t : Int)]) eg_int (ea_cons (py := fun ds => ∃ t : Nat, t < 8 ∧ ds = [.int 1, .int (t : Int)]) eg_int (ea_cons (py := fun ds => ∃ t : Nat, t < 8 ∧ ds = [.int (t : Int)]) eg_int (ea_cons (ed_take (n := 8) rfl eg_int (by decide) (by decide)) ea_nil
              fun a b ⟨t, ea, ht⟩ eb => ⟨t, ht, by rw [ea, eb]⟩) fun a b ea ⟨t, ht, eb⟩ => ⟨t, ht, by rw [ea, eb]⟩) fun a b ea ⟨t, ht, eb⟩ => ⟨t, ht, by rw [ea, eb]⟩) fun a b ea ⟨t, ht, eb⟩ => ⟨t, ht, by rw [ea, eb]⟩)
            fun ds ⟨t, ht, e⟩ => ⟨by rw [e]; simp, t, ht, by rw [e]⟩) (eg_var rfl) fun a b ⟨t, ht, ea⟩ eb => ?_) ea_nil fun a b ⟨m, ea, hm⟩ eb => ⟨(m : Int), by rw [ea, eb], by omega, by omega, m, by rw [Int.toNat_natCast], hm⟩
        subst ea eb
        have hx8 := hx.len.2
        have cases4 : wy = 0 ∨ wy = 1 ∨ wy = 2 ∨ wy = 3 := by omega
        rcases cases4 with z | z | z | z
        · subst z
          exact r2_ixAL (d := .int 0) (atI_nat (j := 0) rfl) ⟨0, rfl, by omega⟩
        · subst z
          exact r2_ixAL (d := .int 0) (atI_nat (j := 1) rfl) ⟨0, rfl, by omega⟩
        · subst z
          have := hx1 (by decide)
          exact r2_ixAL (d := .int 1) (atI_nat (j := 2) rfl) ⟨1, rfl, by omega⟩
        · subst z
          have := hx1 (by decide)
          exact r2_ixAL (d := .int (t : Int)) (atI_nat (j := 3) rfl) ⟨t, rfl, by omega⟩
      · obtain ⟨m, rfl, hm⟩ := hds
        refine ⟨fun k G => ∃ y s7', G = GN p n (.da (.lst (strsD wordsL))) (.da (.int (0 + (i : Int)))) r names (.da (.str y)) s7' (.da (.int (wy : Int))) (.da (.str ⟨#[c]⟩)) ∧ s7'.ad = none ∧ NameOk y ∧ y.length ≤ x.length + k, ⟨x, s7, rfl, a7, hx, by omega⟩, fun k d G4 hd hI => ?_, fun G4 hI => ?_⟩
        · obtain ⟨y, s7', rfl, b7, hy, hyl⟩ := hI
          obtain ⟨hk, rfl⟩ := rng_get hd
          refine ⟨[7], _, gg_name (i := 7) rfl b7 (by simp), ?_⟩
          refine run_set (i := 6) (s := .da (.str y)) (p := fun d => ∃ c', d = .str (y ++ ⟨#[c']⟩) ∧ (isLet c' ∨ isDig c')) (eg_op (px := (· = .str y)) (py := fun d => ∃ c', d = .str ⟨#[c']⟩ ∧ (isLet c' ∨ isDig c')) (eg_var rfl)
            (eg_op (px := (· = .str sSig)) (eg_var rfl) (ed_take (n := 36) rfl eg_int (by decide) (by decide)) fun x y ex ⟨r, ey, hr⟩ => ?_) fun x y ex ⟨c', ey, hc'⟩ => ?_) rfl rfl fun d ⟨c', ed, hc'⟩ => ?_
          · subst ex ey
            obtain ⟨c', h1, h2⟩ := sig_any hr
            exact r2_ixAS (by rw [sig_len]; decide) h1 ⟨c', rfl, h2⟩
          · subst ex ey
            refine r2_addS ?_ ⟨c', rfl, hc'⟩
            have := hy.len.2
            have e1 : (⟨#[c']⟩ : Str).length = 1 := rfl
            omega
          · subst ed
            have e1 : (⟨#[c']⟩ : Str).length = 1 := rfl
            exact ⟨y ++ ⟨#[c']⟩, .da (.int (0 + (k : Int))), rfl, rfl, name_more hy (by omega) hc', by rw [Str.length_append]; omega⟩
        · obtain ⟨y, s7', rfl, b7, hy, _⟩ := hI
          exact ⟨y, s7', rfl, hy, b7⟩
      · obtain ⟨y, s7', rfl, hy, b7⟩ := hG
        refine run_seq (N1 := fun G => ∃ z, G = GN p n (.da (.lst (strsD wordsL))) (.da (.int (0 + (i : Int)))) r names (.da (.str z)) s7' (.da (.int (wy : Int))) (.da (.str ⟨#[c]⟩)) ∧ NameOk z ∧ z ∉ names)
          (run_if (p := (· = decide (y ∈ names))) (et_tst1 (inO (i := 5) (p := r) rfl (eg_var rfl))) (fun z => ?_) fun z => run_next ⟨y, rfl, hy, of_decide_eq_false z.symm⟩) fun G4 hG => ?_
        · obtain ⟨c', h1, h2, h3⟩ := spare_ex (names := names) (by omega)
          refine run_set (i := 6) (s := .da (.str y)) (p := (· = .str ⟨#[c']⟩)) (ed_ixL (ds := ((sgs (cutS sSig none (some 26))).filter (spareB names)).map fun d => d) (ed_lcIf (i := 10) rfl (wk_any1 (d := .str (cutS sSig none (some 26))) (eg_slS (eg_var rfl) eo_none (eo_some eg_int) (by rw [sig_len]; decide)) rfl) ?_ (fun d hd => ?_) fun d hd _ => eg_var rfl) eg_int h3) rfl rfl fun d e => ⟨⟨#[c']⟩, by rw [e]; rfl, name_one h1, h2⟩
          · unfold sgs
            rw [List.length_map, show (cutS sSig none (some 26)).cps.toList = List.range' 97 26 from sig_cut]
            decide
          · unfold sgs at hd
            obtain ⟨cc, _, rfl⟩ := List.mem_map.mp hd
            exact et_tst1 (niO (i := 5) (p := r) rfl (eg_var rfl))
        · obtain ⟨z, rfl, hz, hzn⟩ := hG
          refine run_app (i := 5) (p := r) (ds := strsD names) (q := (· = .str z)) rfl (eg_var rfl) (by rw [strsD_len]; omega) fun d e => ?_
          subst e
          refine ⟨names ++ [z], .da (.int (0 + (i : Int))), .da (.str z), s7', .da (.int (wy : Int)), .da (.str ⟨#[c]⟩), ?_, ⟨rfl, rfl, b7, rfl, rfl⟩, by rw [List.length_append, hlen]; rfl, fun x hx => ?_, ?_⟩
          · show [_, _, _, _, _, Sl.ow r (strsD names ++ [.str z]), _, _, _, _, _] = _
            unfold GN strsD
            rw [List.map_append]
            rfl
          · rcases List.mem_append.mp hx with q | q
            · exact hok x q
            · have : x = z := by simpa using q
              rw [this]; exact hz
          · refine List.nodup_append.mpr ⟨hnd, by simp, fun a ha b hb => ?_⟩
            have : b = z := by simpa using hb
            subst this
            exact fun q => hzn (q ▸ ha)
  · obtain ⟨names, s3, s6, s7, s8, s9, rfl, _, h⟩ := hI
    rw [rng_len] at h
    exact ⟨names, s3, s6, s7, s8, s9, rfl, h⟩
  · obtain ⟨names, s3, s6, s7, s8, s9, rfl, h⟩ := hG
    exact run_retO (i := 5) (p := r) rfl ⟨names, rfl, h⟩
end
end Sb

set_option Elab.async false
set_option linter.all false
set_option maxRecDepth 100000
set_option autoImplicit false
namespace Sb
open PySem PySem.Spec PyProof.Rows L2 TL
abbrev s__law_piece : Stmt := top 50
abbrev N__law_piece : List Str := ["_law_source_here", "_law_known", "_law_way", "_law_number"]
abbrev A__law_piece : List Str := ["_law_source_here", "_law_known"]
theorem sc__law_piece : FnScope N__law_piece A__law_piece (defScope s__law_piece) :=
  ⟨rfl, rfl, rfl, by decide +kernel, rfl, by decide +kernel, by decide +kernel⟩
section
variable {K : KX} {S : List Addr} {G : List Sl}
theorem ea_c {te : TE} {tA : TA} {x : Dt} {y : List Dt} (ha : Eg K S G te (· = x)) (hb : Ea K S G tA (· = y)) : Ea K S G (tCons te tA) (· = x :: y) := ea_cons ha hb fun _ _ e1 e2 => by rw [e1, e2]
def natsD (ns : List Nat) : List Dt := ns.map fun (n : Nat) => Dt.int (n : Int)
theorem nats_at {ns : List Nat} {r : Nat} (h : r < ns.length) : atI (natsD ns) (r : Int) = some (.int ((ns.getD r 0 : Nat) : Int)) := by
  refine atI_nat ?_
  unfold natsD
  rw [List.getElem?_map, List.getElem?_eq_getElem h, List.getD_eq_getElem?_getD, List.getElem?_eq_getElem h]
  rfl
theorem ed_p6 : Eg K S G (tOp (rI CPow fun i j => .int (i ^ j.toNat)) (tC (.int 10)) (tC (.int 6))) (· = .int ((1000000 : Nat) : Int)) := eg_eq (ed_pow eg_int eg_int ⟨by decide, by decide, by decide⟩) (congrArg Dt.int (by decide +kernel))
theorem ed_p12 : Eg K S G (tOp (rI CPow fun i j => .int (i ^ j.toNat)) (tC (.int 10)) (tC (.int 12))) (· = .int 1000000000000) := eg_eq (ed_pow eg_int eg_int ⟨by decide, by decide, by decide⟩) (congrArg Dt.int (by decide +kernel))
/-- an index drawn below a written bound -/
theorem eg_at {ta tb : TE} {ds : List Dt} {n : Nat} {pz : Dt → Prop} (ha : Eg K S G ta (· = .lst ds)) (hb : Eg K S G tb (fun d => ∃ r : Nat, d = .int (r : Int) ∧ r < n)) (h : ∀ r, r < n → ∃ d, ds[r]? = some d ∧ pz d) : Eg K S G (tOp (rIxA K) ta tb) pz :=
  eg_op ha hb fun x y ex ⟨r, ey, hr⟩ => by
    subst ex ey
    obtain ⟨d, h1, h2⟩ := h r hr
    exact r2_ixAL (atI_nat h1) h2
theorem lt2 {r : Nat} (h : r < 2) : r = 0 ∨ r = 1 := by omega
end
section
variable {P : Program} {w : World} {K : KX} {mg : Str → Option Value} {base : Heap} {aS aO C : Addr}
/-! ### a part drawn -/
abbrev sp_piece (K : KX) : Sp := spXS K (fun ns : List Str => [Dt.lst (strsD ns)]) (fun ns => 1 ≤ ns.length ∧ ns.length ≤ 100) (fun ns e => ∃ p : Pt, e = p.d ∧ p.ok ns)
def pieceN : List Nat := [10, 10, 10, 100, 1000000, 3]
theorem pieceN_ok : ∀ r, r < 6 → 0 < pieceN.getD r 0 ∧ pieceN.getD r 0 ≤ 1000000 ∧ (r = 5 → pieceN.getD r 0 = 3) := by decide
theorem ok__law_piece {f : Addr} {fd : FuncData} (F : Fun K "_law_piece" "_law_piece" s__law_piece f fd) (B : Bf K mg aS aO) (c__law_take : Cal P w K mg base 1 "_law_take" (sp_take K)) : FnOk P w K mg base CX0 2 f fd A__law_piece (sp_piece K) := by
  refine fn_xs F sc__law_piece (fun _ => rfl) fun cdv A outer s H E hr => ⟨_, (pss_cons (ps_if (pt_cmpR op_gt (pe_c c__law_take hr (by decide) (by rfl) (pa_cons (pv 0) (pa_cons pe_int pa_nil))) pe_int (nomark _)) (pss_one (ps_ret (pe_ix (ix_anyK (K := K)) (pv 1) (pe_c c__law_take hr (by decide) (by rfl) (pa_cons (pv 0) (pa_cons (pe_callB (call_lenK (K := K)) (by rfl) B.n_len (by decide +kernel) (pa_cons (pv 1) pa_nil)) pa_nil))) (fun _ _ => rfl)))) pss_nil) (pss_cons (ps_set (i := 2) sc__law_piece.nd rfl (Or.inl rfl) (pe_c c__law_take hr (by decide) (by rfl) (pa_cons (pv 0) (pa_cons pe_int pa_nil)))) (pss_cons (ps_set (i := 3) sc__law_piece.nd rfl (Or.inl rfl) (pe_c c__law_take hr (by decide) (by rfl) (pa_cons (pv 0) (pa_cons (pe_ix (ix_anyK (K := K)) (pe_lst (pa_cons pe_int (pa_cons pe_int (pa_cons pe_int (pa_cons pe_int (pa_cons (pe_op op_pow pe_int pe_int) (pa_cons pe_int pa_nil))))))) (pv 2) (fun _ _ => rfl)) pa_nil)))) (pss_one (ps_ret (pe_ifExp (pt_cmpR (op_eqK (K := K) hr.units) (pv 2) pe_int (nomark _)) (pe_op op_sub (pe_op op_pow pe_int pe_int) (pv 3)) (pv 3))))))), fun p ns hn => ?_⟩
  have n1 : 1 ≤ ns.length := hn.1
  have n2 : ns.length ≤ 100 := hn.2
  refine run_seq (N1 := (· = [.sr p, .da (.lst (strsD ns)), .un, .un])) (run_if (p := fun _ => True) (et_gt (p := fun _ => True) (q := fun _ => True) (eg_imp (ed_take (n := 4) rfl eg_int (by decide) (by decide)) fun d ⟨r, e, _⟩ => ⟨_, e, trivial⟩) (ei_of (eg_imp eg_int fun d e => ⟨_, e⟩)) fun _ _ _ _ => trivial) (fun _ => ?_) fun _ => run_next rfl) fun G1 e => ?_
  · refine run_ret (eg_op (px := (· = .lst (strsD ns))) (eg_var rfl) (ed_take (n := ns.length) rfl (ed_cb (ea_1 (eg_var rfl)) (rc_len (d := .lst (strsD ns)) (by show some _ = some _; rw [strsD_len]) (by omega) rfl)) (by omega) (by omega)) fun x y ex ⟨r, ey, hr⟩ => ?_)
    subst ex ey
    obtain ⟨x, _, hm, hx⟩ := strs_at hr
    exact r2_ixAL hx ⟨.nm x, rfl, hm⟩
  · subst e
    refine q_setP (i := 2) (p := fun d => ∃ r : Nat, d = .int (r : Int) ∧ r < 6) (ed_take (n := 6) rfl eg_int (by decide) (by decide)) fun d hd => ?_
    obtain ⟨wy, rfl, hw⟩ := hd
    obtain ⟨w0, w1, w5⟩ := pieceN_ok wy hw
    refine q_setP (i := 3) (p := fun d => ∃ r : Nat, d = .int (r : Int) ∧ r < pieceN.getD wy 0) (ed_take (n := pieceN.getD wy 0) rfl (ed_ixL (ds := natsD pieceN) (ed_lst (ea_c eg_int (ea_c eg_int (ea_c eg_int (ea_c eg_int (ea_c ed_p6 (ea_c eg_int ea_nil)))))) (by decide)) (eg_var rfl) (nats_at hw)) w0 w1) fun d hd => ?_
    obtain ⟨r, rfl, hr⟩ := hd
    refine run_ret (eg_if (p := (· = decide ((wy : Int) = 5))) (et_tst1 (ed_eqI (eg_var rfl) eg_int)) (fun z => eg_imp (ed_sub ed_p12 (eg_var rfl)) fun d e => ⟨.nu (1000000000000 - r), ?_, ?_⟩) fun z => eg_imp (eg_var rfl) fun d e => ⟨.nu r, e, ?_⟩)
    · have wz : wy = 5 := by have := of_decide_eq_true z.symm; omega
      have := w5 wz
      rw [e]
      show Dt.int _ = Dt.int _
      rw [show (1000000000000 : Int) - (r : Int) = ((1000000000000 - r : Nat) : Int) by omega]
    · show 1000000000000 - r ≤ 1000000000000
      omega
    · show r ≤ 1000000000000
      omega
theorem ed_piece {S : List Addr} {G : List Sl} {i : Nat} {p : Addr} {te : TE} {ns : List Str} (hi : G[i]? = some (.sr p)) (he : Eg K S G te (· = .lst (strsD ns))) (h1 : 1 ≤ ns.length) (h2 : ns.length ≤ 100) : Eg K S G (tCall (sp_piece K) [] E0 (tCons (tVar i) (tCons te tNil))) (fun d => ∃ p : Pt, d = p.d ∧ p.ok ns) :=
  eg_callXS hi (ea_1 he) fun ds e => ⟨ns, e, ⟨h1, h2⟩, fun d h => h⟩
/-! ### a line drawn -/
structure LineIn where
  x : Str
  ns : List Str
  seats : List Str
structure LineIn.ok (a : LineIn) : Prop where
  n1 : 1 ≤ a.seats.length
  n4 : a.seats.length ≤ 4
  m1 : 1 ≤ a.ns.length
  m2 : a.ns.length ≤ 100
  sub : ∀ y ∈ a.seats, y ∈ a.ns
/-- a line as the law has it -/
def Ln.dl (l : Ln) : Dt := .tup [.str l.n, .str l.t.ord, .int (l.t.k : Int), .lst (ptsD l.t.ps)]
abbrev sp_line (K : KX) : Sp := spXS K (fun a : LineIn => [Dt.str a.x, .lst (strsD a.ns), .lst (strsD a.seats)]) LineIn.ok (fun a e => ∃ l : Ln, e = l.dl ∧ l.n = a.x ∧ l.t.ok a.ns)
theorem pts_of {ns : List Str} : ∀ {es : List Dt}, (∀ e ∈ es, ∃ p : Pt, e = p.d ∧ p.ok ns) → ∃ ps : List Pt, es = ptsD ps ∧ ∀ p ∈ ps, p.ok ns
  | [], _ => ⟨[], rfl, fun p hp => by cases hp⟩
  | e :: es, h => by
    obtain ⟨p, rfl, hp⟩ := h e (by simp)
    obtain ⟨ps, rfl, hps⟩ := pts_of (es := es) fun e he => h e (by simp [he])
    refine ⟨p :: ps, rfl, fun q hq => ?_⟩
    rcases List.mem_cons.mp hq with z | z
    · rw [z]; exact hp
    · exact hps q z
theorem strs_pts (xs : List Str) : strsD xs = ptsD (xs.map Pt.nm) := by unfold strsD ptsD; rw [List.map_map]; rfl
/-! ### a row drawn -/
def Deed.who : Deed → Dt
  | .keep => .non
  | .sell w _ => w.d
def Deed.pay : Deed → Dt
  | .keep => .non
  | .sell _ p => p.d
/-- a row as the law has it -/
def Row.dl (r : Row) : Dt := .tup [oc r.c, r.d.who, r.d.pay]
structure RowDr where
  last : Bool
  ns : List Str
  seats : List Str
structure RowDr.ok (a : RowDr) : Prop where
  n1 : 1 ≤ a.seats.length
  n4 : a.seats.length ≤ 4
  m1 : 1 ≤ a.ns.length
  m2 : a.ns.length ≤ 100
abbrev sp_row (K : KX) : Sp := spXS K (fun a : RowDr => [Dt.bl a.last, .lst (strsD a.ns), .lst (strsD a.seats)]) RowDr.ok (fun a e => ∃ r : Row, e = r.dl ∧ r.ok a.seats a.ns ∧ r.c.isNone = a.last)
def oW : Option Who → Dt
  | none => .non
  | some w => w.d
end
end Sb

set_option Elab.async false
set_option linter.all false
set_option maxRecDepth 100000
set_option autoImplicit false
namespace Sb
open PySem PySem.Spec PyProof.Rows L2 TL

/-! ### a rule drawn -/
def lnsD (ls : List Ln) : List Dt := ls.map Ln.dl
def rwsD (rows : List Row) : List Dt := rows.map Row.dl
def planD (seats : List Str) (ls : List Ln) (rows : List Row) : Dt := .lst [.lst (strsD seats), .lst (lnsD ls), .lst (rwsD rows)]
theorem lnsD_len (ls : List Ln) : (lnsD ls).length = ls.length := by unfold lnsD; rw [List.length_map]
theorem rwsD_len (ls : List Row) : (rwsD ls).length = ls.length := by unfold rwsD; rw [List.length_map]
structure PlanOk (seats : List Str) (ls : List Ln) (rows : List Row) : Prop where
  s : SeatsOk seats
  l : LinesOk seats ls
  r : RowsOk seats (seats ++ nmL ls) rows
structure PlanIn where
  n : Nat
  m : Nat
  r : Nat
structure PlanIn.ok (a : PlanIn) : Prop where
  n1 : 1 ≤ a.n
  n4 : a.n ≤ 4
  m8 : a.m ≤ 8
  r1 : 1 ≤ a.r
  r6 : a.r ≤ 6
section
variable {P : Program} {w : World} {K : KX} {mg : Str → Option Value} {base : Heap} {aS aO C : Addr}
abbrev sp_plan (K : KX) : Sp := spXS K (fun a : PlanIn => [Dt.int (a.n : Int), .int (a.m : Int), .int (a.r : Int)]) PlanIn.ok (fun a e => ∃ seats ls rows, e = planD seats ls rows ∧ PlanOk seats ls rows ∧ seats.length = a.n ∧ ls.length = a.m ∧ rows.length = a.r)
def GP (p : Addr) (n m r : Nat) (s4 s5 s6 s7 s8 : Sl) : List Sl := [.sr p, .da (.int (n : Int)), .da (.int (m : Int)), .da (.int (r : Int)), s4, s5, s6, s7, s8]
theorem take_more {al : Type} {xs : List al} {n i : Nat} : xs.take n ++ (xs.drop n).take i = xs.take (n + i) := (List.take_add ..).symm
end
end Sb

set_option Elab.async false
set_option linter.all false
set_option maxRecDepth 100000
set_option autoImplicit false
namespace Sb
open PySem PySem.Spec PyProof.Rows L2 TL

/-! ### the texts, from what the law has -/
theorem pts_txt (ps : List Pt) : (ptsD ps).map sideT = ps.map Pt.txt := by
  unfold ptsD
  rw [List.map_map]
  exact List.map_congr_left fun p _ => sideT_d p
def lnT2 : Dt → Str
  | .tup [.str n, .str o, .int k, .lst ps] => n ++ sEq ++ jn (o :: Str.ofString (toString k) :: ps.map sideT)
  | _ => sKeep
theorem lnT2_dl (l : Ln) : lnT2 l.dl = lnT l := by
  show l.n ++ sEq ++ jn (l.t.ord :: num l.t.k :: (ptsD l.t.ps).map sideT) = _
  rw [pts_txt]
  rfl
def rowT2 : Dt → Str
  | .tup [.non, .non, _] => sKeep
  | .tup [.non, w, p] => jn [sSell, sideT w, sAt, sideT p]
  | .tup [.tup [a, .str s, b], .non, _] => jn [sIf, sideT a, s, sideT b] ++ sColon ++ sKeep
  | .tup [.tup [a, .str s, b], w, p] => jn [sIf, sideT a, s, sideT b] ++ sColon ++ jn [sSell, sideT w, sAt, sideT p]
  | _ => sKeep
theorem rowT2_dl (r : Row) : rowT2 r.dl = r.txt := by
  obtain ⟨oc, d⟩ := r
  cases oc with
  | none =>
    cases d with
    | keep => exact (jn_one sKeep).symm
    | sell w p =>
      cases w with
      | seat x =>
        show jn [sSell, x, sAt, sideT p.d] = _
        rw [sideT_d]
        rfl
      | place k =>
        show jn [sSell, num k, sAt, sideT p.d] = _
        rw [sideT_d]
        rfl
  | some c =>
    cases d with
    | keep =>
      show jn [sIf, sideT c.p.d, c.sg, sideT c.q.d] ++ sColon ++ sKeep = _
      rw [sideT_d, sideT_d, ← jn_one sKeep]
      rfl
    | sell w p =>
      cases w with
      | seat x =>
        show jn [sIf, sideT c.p.d, c.sg, sideT c.q.d] ++ sColon ++ jn [sSell, x, sAt, sideT p.d] = _
        rw [sideT_d, sideT_d, sideT_d]
        rfl
      | place k =>
        show jn [sIf, sideT c.p.d, c.sg, sideT c.q.d] ++ sColon ++ jn [sSell, num k, sAt, sideT p.d] = _
        rw [sideT_d, sideT_d, sideT_d]
        rfl
def sCol1 : Str := ":"
theorem cond_txt (c : Cond) (t : Str) : jn [sIf, c.p.txt, c.sg, c.q.txt ++ sCol1, t] = c.txt ++ sColon ++ t := by
  unfold Cond.txt Cond.ws
  rw [jn_cons, jn_cons, jn_cons, jn_cons, jn_one, jn_cons, jn_cons, jn_cons, jn_one]
  apply str_ext
  simp only [cs_app, List.append_assoc]
  have e1 : cs sColon = cs sCol1 ++ cs sp1 := by decide +kernel
  rw [e1]
  simp only [List.append_assoc]
section
variable {K : KX} {S : List Addr} {G : List Sl}
theorem log2_le {n : Nat} (hn : n ≤ 1000000000000) : ((n : Int)).natAbs.log2 < 1920 := by
  have e : ((n : Int)).natAbs = n := by omega
  rw [e]
  by_cases n0 : n = 0
  · rw [n0]; decide
  · have h1 : Nat.log2 n < 41 := (Nat.log2_lt n0).mpr (Nat.lt_of_le_of_lt hn (by decide))
    omega
theorem ed_strN {te : TE} {n : Nat} (h : Eg K S G te (· = .int (n : Int))) (hn : n ≤ 1000000000000) : Eg K S G (tCB rStrA (tCons te tNil)) (· = .str (num n)) := ed_cb (ea_1 h) (rc_strI (log2_le hn) rfl)
theorem ed_strP {te : TE} {ns : List Str} {p : Pt} (h : Eg K S G te (· = p.d)) (hp : p.ok ns) : Eg K S G (tCB rStrA (tCons te tNil)) (· = .str p.txt) := by
  cases p with
  | nm x => exact ed_cb (ea_1 h) (rc_strS rfl)
  | nu n => exact ed_strN h hp
theorem ed_strW {te : TE} {seats : List Str} {w : Who} (h : Eg K S G te (· = w.d)) (hw : w.ok seats) (hl : seats.length ≤ 9) : Eg K S G (tCB rStrA (tCons te tNil)) (· = .str w.txt) := by
  cases w with
  | seat x => exact ed_cb (ea_1 h) (rc_strS rfl)
  | place k => exact ed_strN h (by have := hw.2; omega)
end
theorem words_sum {ws : List Str} (h : ∀ x ∈ ws, Word x) : (ws.map (·.length)).sum ≤ ws.length * 20 := by
  have := sum_le (b := 20) (xs := ws.map (·.length)) fun x hx => by
    obtain ⟨y, hy, rfl⟩ := List.mem_map.mp hx
    exact (h y hy).2
  rw [List.length_map] at this
  exact this
theorem sp1_len : sp1.length = 1 := by decide +kernel
section
variable {P : Program} {w : World} {K : KX} {mg : Str → Option Value} {base : Heap} {aS aO C : Addr}
structure TmIn where
  l : Ln
  ns : List Str
abbrev sp_term (K : KX) : Sp := spX K (fun a : TmIn => [a.l.dl]) (fun a => NamesOk a.ns ∧ a.l.t.ok a.ns) (fun a e => e = .str a.l.t.txt)
/-! ### a row's text -/
structure DeIn where
  r : Row
  seats : List Str
  ns : List Str
structure DeIn.ok (a : DeIn) : Prop where
  hs : NamesOk a.seats
  n9 : a.seats.length ≤ 9
  hn : NamesOk a.ns
  r : a.r.ok a.seats a.ns
abbrev sp_deed (K : KX) : Sp := spX K (fun a : DeIn => [a.r.dl]) DeIn.ok (fun a e => e = .str a.r.txt)
/-! ### a rule's text -/
structure WhIn where
  seats : List Str
  ls : List Ln
  rows : List Row
abbrev sp_whole (K : KX) : Sp := spX K (fun a : WhIn => [planD a.seats a.ls a.rows]) (fun a => PlanOk a.seats a.ls a.rows) (fun a e => e = .str (Txt.join sNl (textsL a.seats a.ls a.rows)))
theorem line_in {seats : List Str} {ls : List Ln} (h1 : SeatsOk seats) (h2 : LinesOk seats ls) {l : Ln} (hl : l ∈ ls) : ∃ ns, NamesOk ns ∧ l.t.ok ns := by
  obtain ⟨i, hi⟩ := List.mem_iff_getElem?.mp hl
  refine ⟨_, fun x hx => ?_, h2.tm i l hi⟩
  rcases List.mem_append.mp hx with z | z
  · exact h1.ok x z
  · exact h2.ok x (List.mem_of_mem_take z)
end
end Sb

set_option Elab.async false
set_option linter.all false
set_option maxRecDepth 100000
set_option autoImplicit false
namespace Sb
open PySem PySem.Spec PyProof.Rows L2 TL
abbrev s__law_integers : Stmt := top 51
abbrev N__law_integers : List Str := ["_law_plan", "_law_found", "_law_line_here", "_law_sides", "_law_who", "_law_price", "_law_piece_here"]
abbrev A__law_integers : List Str := ["_law_plan"]
theorem sc__law_integers : FnScope N__law_integers A__law_integers (defScope s__law_integers) :=
  ⟨rfl, rfl, rfl, by decide +kernel, rfl, by decide +kernel, by decide +kernel⟩
abbrev s__law_offers : Stmt := top 52
abbrev N__law_offers : List Str := ["_law_source_here", "_law_plan", "_law_seat", "_law_near", "_law_found", "_law_way", "_law_here", "_law_number"]
abbrev A__law_offers : List Str := ["_law_source_here", "_law_plan"]
theorem sc__law_offers : FnScope N__law_offers A__law_offers (defScope s__law_offers) :=
  ⟨rfl, rfl, rfl, by decide +kernel, rfl, by decide +kernel, by decide +kernel⟩
/-! ### the integers of a rule -/
def Sm (e : Dt) : Prop := e = .non ∨ (∃ x, e = .str x) ∨ ∃ n : Nat, e = .int (n : Int) ∧ n ≤ 1000000000000
theorem sm_pt {ns : List Str} {p : Pt} (h : p.ok ns) : Sm p.d := by
  cases p with
  | nm x => exact .inr (.inl ⟨x, rfl⟩)
  | nu n => exact .inr (.inr ⟨n, rfl, h⟩)
def cdD : Option Cond → List Dt
  | none => []
  | some c => [c.p.d, .str c.sg, c.q.d]
def IntsOk (xs : List Int) : Prop := ∀ i ∈ xs, 0 ≤ i ∧ i ≤ 1000000000000
theorem ints_filter : ∀ {es : List Dt}, (∀ e ∈ es, Sm e) → ∃ xs : List Int, (es.filter isInt).map (fun d => d) = intsD xs ∧ IntsOk xs ∧ xs.length ≤ es.length
  | [], _ => ⟨[], rfl, fun i hi => by (cases hi), Nat.le_refl _⟩
  | e :: es, h => by
    obtain ⟨xs, h1, h2, h3⟩ := ints_filter (es := es) fun e he => h e (by simp [he])
    rcases h e (by simp) with z | ⟨x, z⟩ | ⟨n, z, hn⟩
    · subst z
      refine ⟨xs, ?_, h2, by rw [List.length_cons]; omega⟩
      rw [List.filter_cons_of_neg (by exact Bool.false_ne_true), h1]
    · subst z
      refine ⟨xs, ?_, h2, by rw [List.length_cons]; omega⟩
      rw [List.filter_cons_of_neg (by exact Bool.false_ne_true), h1]
    · subst z
      refine ⟨(n : Int) :: xs, ?_, fun i hi => ?_, by rw [List.length_cons, List.length_cons]; omega⟩
      · rw [List.filter_cons_of_pos (by rfl), List.map_cons, h1]
        rfl
      · rcases List.mem_cons.mp hi with q | q
        · rw [q]; omega
        · exact h2 i q
section
variable {K : KX} {S : List Addr} {G : List Sl}
theorem et_isI {te : TE} {e : Dt} (h : Eg K S G te (· = e)) (hs : Sm e) : Et K S G (L2.tB (tCB (rIsi K) (tCons te (tCons (tC (.ty "int")) tNil)))) (· = isInt e) := by
  rcases hs with z | ⟨x, z⟩ | ⟨n, z, hn⟩
  · subst z
    exact et_B1 (eg_isi (b := false) (d := .non) h rfl (by decide +kernel))
  · subst z
    exact et_B1 (eg_isi (b := false) (d := .str x) h rfl (by decide +kernel))
  · subst z
    exact et_B1 (eg_isi (b := true) (d := .int (n : Int)) h rfl (by decide +kernel))
theorem ints_app (xs ys : List Int) : intsD xs ++ intsD ys = intsD (xs ++ ys) := by unfold intsD; rw [List.map_append]
theorem rc_max {i j : Int} {pz : Dt → Prop} (h : pz (.int (if j > i then j else i))) : Rcv K (fun xs H Q => ∃ i j, xs = [.int i, .int j] ∧ Q (.int (if j > i then j else i)) H) [.int i, .int j] pz := fun P H vs Q t dn k => by
  have ev : vs = [.int i, .int j] := dnA_v dn rfl
  subst ev
  exact ⟨i, j, rfl, rv_out k h rfl⟩
end
section
variable {P : Program} {w : World} {K : KX} {mg : Str → Option Value} {base : Heap} {aS aO C : Addr}
/-- a plan whose rows may be none -/
structure PlanW (seats : List Str) (ls : List Ln) (rows : List Row) : Prop where
  s : SeatsOk seats
  l : LinesOk seats ls
  n6 : rows.length ≤ 6
  ok : ∀ r ∈ rows, r.ok seats (seats ++ nmL ls)
abbrev sp_integers (K : KX) : Sp := spX K (fun a : WhIn => [planD a.seats a.ls a.rows]) (fun a => PlanW a.seats a.ls a.rows) (fun a e => ∃ xs : List Int, e = .lst (intsD xs) ∧ IntsOk xs ∧ 1 ≤ xs.length ∧ xs.length ≤ 100)
theorem ok__law_integers {f : Addr} {fd : FuncData} (F : Fun K "_law_integers" "_law_integers" s__law_integers f fd) (B : Bf K mg aS aO) : FnOk P w K mg base CX0 1 f fd A__law_integers (sp_integers K) := by
  refine fn_x F sc__law_integers (fun _ => rfl) fun cdv A outer s H E hr => ⟨_, (pss_cons (ps_set (i := 1) sc__law_integers.nd rfl (Or.inl rfl) (pe_lst (pa_cons pe_int pa_nil))) (pss_cons (ps_for PassesOwn.never rfl (pi_anyK (K := K) (pe_ix (ix_anyK (K := K)) (pv 0) pe_int (fun _ _ => rfl))) (pg_name (i := 2) sc__law_integers.nd rfl (Or.inl rfl)) (pss_one (ps_set (i := 1) sc__law_integers.nd rfl (Or.inl rfl) (pe_op (op_addK (K := K)) (pv 1) (pe_lc (own := [("_law_piece_here", 6)]) (g := gName 6) (by rfl) sc__law_integers.nd (pi_anyK (K := K) (pe_ix (ix_anyK (K := K)) (pv 2) pe_int (fun _ _ => rfl))) (blkOk_by (own := [("_law_piece_here", 6)]) (N := N__law_integers) (sc := defScope s__law_integers) (by decide +kernel)) (fun _ _ _ _ _ => (pg_name (i := 6) sc__law_integers.nd rfl (Or.inl rfl))) (fun _ _ _ _ _ => (pts_one (pt_val (pe_callB (call_isiQ (K := K)) (by rfl) B.n_isinstance (by decide +kernel) (pa_cons (pv 6) (pa_cons (pe_bltn (v := .ty "int") (by rfl) B.n_int (by decide +kernel) rfl) pa_nil)))))) (fun _ _ _ _ _ => (pv 6))))))) (pss_cons (ps_for PassesOwn.never rfl (pi_anyK (K := K) (pe_ix (ix_anyK (K := K)) (pv 0) pe_int (fun _ _ => rfl))) (pg_tup rfl (pgs_cons (pg_name (i := 3) sc__law_integers.nd rfl (Or.inl rfl)) (pgs_cons (pg_name (i := 4) sc__law_integers.nd rfl (Or.inl rfl)) (pgs_cons (pg_name (i := 5) sc__law_integers.nd rfl (Or.inl rfl)) pgs_nil)))) (pss_one (ps_set (i := 1) sc__law_integers.nd rfl (Or.inl rfl) (pe_op (op_addK (K := K)) (pv 1) (pe_lc (own := [("_law_piece_here", 6)]) (g := gName 6) (by rfl) sc__law_integers.nd (pi_anyK (K := K) (pe_op (op_addK (K := K)) (pe_lst (pa_cons (pv 5) pa_nil)) (pe_callTy (call_lstK (K := K)) (by rfl) B.n_list (by decide +kernel) (pa_cons (pe_orTK (K := K) (pv 3) (pe_one (pe_tup pa_nil))) pa_nil)))) (blkOk_by (own := [("_law_piece_here", 6)]) (N := N__law_integers) (sc := defScope s__law_integers) (by decide +kernel)) (fun _ _ _ _ _ => (pg_name (i := 6) sc__law_integers.nd rfl (Or.inl rfl))) (fun _ _ _ _ _ => (pts_one (pt_val (pe_callB (call_isiQ (K := K)) (by rfl) B.n_isinstance (by decide +kernel) (pa_cons (pv 6) (pa_cons (pe_bltn (v := .ty "int") (by rfl) B.n_int (by decide +kernel) rfl) pa_nil)))))) (fun _ _ _ _ _ => (pv 6))))))) (pss_one (ps_ret (pv 1)))))), fun a ha => ?_⟩
  obtain ⟨seats, ls, rows⟩ := a
  have h1 : SeatsOk seats := ha.s
  have h2 : LinesOk seats ls := ha.l
  have hn6 : rows.length ≤ 6 := ha.n6
  have hn8 := h2.n8
  have e0 : planD seats ls rows = .lst [.lst (strsD seats), .lst (lnsD ls), .lst (rwsD rows)] := rfl
  rw [e0]
  refine q_set (i := 1) (d := .lst (intsD [0])) (ed_lst (ea_1 eg_int) (by show 1 ≤ 100000; decide)) ?_
  refine run_seq (N1 := fun G => ∃ (xs : List Int) (s2 : Sl), G = [.da (.lst [.lst (strsD seats), .lst (lnsD ls), .lst (rwsD rows)]), .da (.lst (intsD xs)), s2, .un, .un, .un, .un] ∧ s2.ad = none ∧ IntsOk xs ∧ 1 ≤ xs.length ∧ xs.length ≤ 1 + 6 * ls.length)
    (run_forD (ds := lnsD ls) (fun i G => ∃ (xs : List Int) (s2 : Sl), G = [.da (.lst [.lst (strsD seats), .lst (lnsD ls), .lst (rwsD rows)]), .da (.lst (intsD xs)), s2, .un, .un, .un, .un] ∧ s2.ad = none ∧ IntsOk xs ∧ 1 ≤ xs.length ∧ xs.length ≤ 1 + 6 * i)
      (wk_any1 (d := .lst (lnsD ls)) (ed_ixL (eg_var rfl) eg_int at1) rfl) ⟨[0], .un, rfl, rfl, fun i hi => by (have e : i = 0 := by simpa using hi); omega, by simp, by simp⟩ (fun i d G1 hd hI => ?_) fun G1 hI => ?_) fun G1 hG => ?_
  · obtain ⟨xs, s2, rfl, a2, hxo, hx1, hxl⟩ := hI
    unfold lnsD at hd
    rw [List.getElem?_map] at hd
    cases hl : ls[i]? with
    | none => rw [hl] at hd; cases hd
    | some l =>
      rw [hl] at hd
      have ed : l.dl = d := Option.some.inj hd
      subst ed
      have hlt : i < ls.length := (List.getElem?_eq_some_iff.mp hl).1
      have ht := h2.tm i l hl
      have n6 := ht.n6
      refine ⟨[2], _, gg_name (i := 2) rfl a2 (by simp), ?_⟩
      obtain ⟨ys, hy1, hy2, hy3⟩ := ints_filter (es := ptsD l.t.ps) fun e he => by
        obtain ⟨p, hp, rfl⟩ := List.mem_map.mp he
        exact sm_pt (ht.ps p hp)
      rw [ptsD_len] at hy3
      refine run_set (i := 1) (s := .da (.lst (intsD xs))) (p := (· = .lst (intsD (xs ++ ys)))) (eg_eq (ed_addL (i := intsD xs) (j := ((ptsD l.t.ps).filter isInt).map fun d => d) (eg_var rfl) (ed_lcIf (i := 6) rfl (wk_any1 (d := .lst (ptsD l.t.ps)) (ed_ixT (ds := [.str l.n, .str l.t.ord, .int (l.t.k : Int), .lst (ptsD l.t.ps)]) (eg_var rfl) eg_int at3) rfl) (by rw [ptsD_len]; omega) (fun d hd => ?_) fun d hd _ => eg_var rfl) ?_) ?_) rfl rfl fun d e => ?_
      · obtain ⟨p, hp, rfl⟩ := List.mem_map.mp hd
        exact et_isI (eg_var rfl) (sm_pt (ht.ps p hp))
      · rw [hy1, intsD_len, intsD_len]
        omega
      · rw [hy1, ints_app]
      · subst e
        refine ⟨xs ++ ys, .da l.dl, rfl, rfl, fun j hj => ?_, by rw [List.length_append]; omega, by rw [List.length_append]; omega⟩
        rcases List.mem_append.mp hj with z | z
        · exact hxo j z
        · exact hy2 j z
  · obtain ⟨xs, s2, rfl, a2, hxo, hx1, hxl⟩ := hI
    rw [lnsD_len] at hxl
    exact ⟨xs, s2, rfl, a2, hxo, hx1, hxl⟩
  obtain ⟨xs, s2, rfl, a2, hxo, hx1, hxl⟩ := hG
  refine run_seq (N1 := fun G => ∃ (ys : List Int) (s3 s4 s5 : Sl), G = [.da (.lst [.lst (strsD seats), .lst (lnsD ls), .lst (rwsD rows)]), .da (.lst (intsD ys)), s2, s3, s4, s5, .un] ∧ IntsOk ys ∧ 1 ≤ ys.length ∧ ys.length ≤ 1 + 6 * ls.length + 4 * rows.length)
    (run_forD (ds := rwsD rows) (fun i G => ∃ (ys : List Int) (s3 s4 s5 : Sl), G = [.da (.lst [.lst (strsD seats), .lst (lnsD ls), .lst (rwsD rows)]), .da (.lst (intsD ys)), s2, s3, s4, s5, .un] ∧ (s3.ad = none ∧ s4.ad = none ∧ s5.ad = none) ∧ IntsOk ys ∧ 1 ≤ ys.length ∧ ys.length ≤ 1 + 6 * ls.length + 4 * i)
      (wk_any1 (d := .lst (rwsD rows)) (ed_ixL (eg_var rfl) eg_int at2) rfl) ⟨xs, .un, .un, .un, rfl, ⟨rfl, rfl, rfl⟩, hxo, hx1, by omega⟩ (fun i d G1 hd hI => ?_) fun G1 hI => ?_) fun G1 hG => ?_
  · obtain ⟨ys, s3, s4, s5, rfl, ⟨a3, a4, a5⟩, hyo, hy1, hyl⟩ := hI
    unfold rwsD at hd
    rw [List.getElem?_map] at hd
    cases hl : rows[i]? with
    | none => rw [hl] at hd; cases hd
    | some r =>
      rw [hl] at hd
      have ed : r.dl = d := Option.some.inj hd
      subst ed
      have hlt : i < rows.length := (List.getElem?_eq_some_iff.mp hl).1
      have hro := ha.ok r (List.mem_of_getElem? hl)
      refine ⟨[3, 4, 5], _, gg_three rfl a3 rfl a4 rfl a5 (by decide) (by decide) (by decide) (by simp) (by simp) (by simp), ?_⟩
      obtain ⟨oc', dd⟩ := r
      have hpay : Sm dd.pay := by
        cases dd with
        | keep => exact .inl rfl
        | sell w p => exact sm_pt hro.1.2
      have hcd : ∀ e ∈ cdD oc', Sm e := by
        cases oc' with
        | none => intro e he; cases he
        | some c =>
          have hc := hro.2 c rfl
          intro e he
          have he' : e = c.p.d ∨ e = .str c.sg ∨ e = c.q.d := by simpa [cdD] using he
          rcases he' with z | z | z
          · rw [z]; exact sm_pt hc.1
          · exact .inr (.inl ⟨_, z⟩)
          · rw [z]; exact sm_pt hc.2
      have hcl : (cdD oc').length ≤ 3 := by
        cases oc' with
        | none => exact Nat.zero_le _
        | some c => exact Nat.le_refl _
      have hall : ∀ e ∈ dd.pay :: cdD oc', Sm e := fun e he => by
        rcases List.mem_cons.mp he with z | z
        · rw [z]; exact hpay
        · exact hcd e z
      have hor : ∀ {G : List Sl}, G[3]? = some (.da (oc oc')) → Eg K [] G (tOrT K (tVar 3) (tTup tNil)) (· = .tup (cdD oc')) := fun g => by
        cases oc' with
        | none => exact eg_orT (d := .non) (b := false) (eg_var g) rfl (fun z => (Bool.false_ne_true z).elim) fun _ => ed_tup ea_nil (by show 0 ≤ 100000; decide)
        | some c => exact eg_orT (d := c.d) (b := true) (eg_var g) rfl (fun _ => rfl) fun z => (Bool.false_ne_true z.symm).elim
      obtain ⟨zs, hz1, hz2, hz3⟩ := ints_filter hall
      rw [List.length_cons] at hz3
      refine run_set (i := 1) (s := .da (.lst (intsD ys))) (p := (· = .lst (intsD (ys ++ zs)))) (eg_eq (ed_addL (i := intsD ys) (j := ((dd.pay :: cdD oc').filter isInt).map fun d => d) (eg_var rfl) (ed_lcIf (i := 6) rfl (wk_any1 (d := .lst (dd.pay :: cdD oc')) (ed_addL (i := [dd.pay]) (j := cdD oc') (ed_lst (ea_1 (eg_var rfl))) (ed_cb (ea_1 (hor rfl)) (rc_lstT rfl)) (by simp only [List.length_cons, List.length_nil]; omega)) rfl) (by rw [List.length_cons]; omega) (fun d hd => et_isI (eg_var rfl) (hall d hd)) fun d hd _ => eg_var rfl) ?_) ?_) rfl rfl fun d e => ?_
      · rw [hz1, intsD_len, intsD_len]
        omega
      · rw [hz1, ints_app]
      · subst e
        refine ⟨ys ++ zs, .da (oc oc'), .da dd.who, .da dd.pay, rfl, ⟨rfl, rfl, rfl⟩, fun j hj => ?_, by rw [List.length_append]; omega, by rw [List.length_append]; omega⟩
        rcases List.mem_append.mp hj with z | z
        · exact hyo j z
        · exact hz2 j z
  · obtain ⟨ys, s3, s4, s5, rfl, _, h⟩ := hI
    rw [rwsD_len] at h
    exact ⟨ys, s3, s4, s5, rfl, h⟩
  obtain ⟨ys, s3, s4, s5, rfl, hyo, hy1, hyl⟩ := hG
  exact run_ret (eg_imp (eg_var rfl) fun d e => ⟨ys, e, hyo, hy1, by omega⟩)
/-! ### bids drawn -/
def BidsOk (bids : List Int) : Prop := ∀ b ∈ bids, 0 ≤ b ∧ b < 10 ^ 40
def offN : List Nat := [3, 12, 3, 1000000]
theorem offN_ok : ∀ r, r < 4 → 0 < offN.getD r 0 ∧ offN.getD r 0 ≤ 1000000 := by decide
abbrev sp_offers (K : KX) : Sp := spXS K (fun a : WhIn => [planD a.seats a.ls a.rows]) (fun a => PlanW a.seats a.ls a.rows) (fun a e => ∃ bids : List Int, e = .tup (intsD bids) ∧ BidsOk bids ∧ bids.length = a.seats.length)
theorem ok__law_offers {f : Addr} {fd : FuncData} (F : Fun K "_law_offers" "_law_offers" s__law_offers f fd) (B : Bf K mg aS aO) (c__law_take : Cal P w K mg base 1 "_law_take" (sp_take K)) (c__law_integers : Cal P w K mg base 1 "_law_integers" (sp_integers K)) : FnOk P w K mg base CX0 2 f fd A__law_offers (sp_offers K) := by
  refine fn_xs F sc__law_offers (fun _ => rfl) fun cdv A outer s H E hr => ⟨_, (pss_cons (ps_par3 (i := 3) (j := 4) (l := 5) rfl sc__law_offers.nd rfl rfl rfl (by decide) (by decide) (by decide) rfl rfl rfl (pa_cons (pe_c c__law_integers hr (by decide) (by rfl) (pa_cons (pv 1) pa_nil)) (pa_cons (pe_lst pa_nil) (pa_cons (pe_c c__law_take hr (by decide) (by rfl) (pa_cons (pv 0) (pa_cons pe_int pa_nil))) pa_nil))) rfl) (pss_cons (ps_for PassesOwn.never rfl (pi_anyK (K := K) (pe_ix (ix_anyK (K := K)) (pv 1) pe_int (fun _ _ => rfl))) (pg_name (i := 2) sc__law_offers.nd rfl (Or.inl rfl)) (pss_cons (ps_set (i := 6) sc__law_offers.nd rfl (Or.inl rfl) (pe_ifExp (pt_cmpR op_lt (pv 5) pe_int (nomark _)) (pv 5) (pe_c c__law_take hr (by decide) (by rfl) (pa_cons (pv 0) (pa_cons pe_int pa_nil))))) (pss_cons (ps_set (i := 7) sc__law_offers.nd rfl (Or.inl rfl) (pe_c c__law_take hr (by decide) (by rfl) (pa_cons (pv 0) (pa_cons (pe_ix (ix_anyK (K := K)) (pe_lst (pa_cons pe_int (pa_cons pe_int (pa_cons pe_int (pa_cons (pe_op op_pow pe_int pe_int) pa_nil))))) (pv 6) (fun _ _ => rfl)) pa_nil)))) (pss_cons (ps_if (pt_cmpR (op_eqK (K := K) hr.units) (pv 6) pe_int (nomark _)) (pss_one (ps_set (i := 7) sc__law_offers.nd rfl (Or.inl rfl) (pe_callB (call_max2 rfl) (by rfl) B.n_max (by decide +kernel) (pa_cons pe_int (pa_cons (pe_op op_sub (pe_op (op_addK (K := K)) (pe_ix (ix_anyK (K := K)) (pv 3) (pe_c c__law_take hr (by decide) (by rfl) (pa_cons (pv 0) (pa_cons (pe_callB (call_lenK (K := K)) (by rfl) B.n_len (by decide +kernel) (pa_cons (pv 3) pa_nil)) pa_nil))) (fun _ _ => rfl)) (pv 7)) pe_int) pa_nil))))) pss_nil) (pss_one (ps_expr (pe_bm PySem.F.plainAttrs_list PySem.F.slot_list_append PySem.F.type_list_append mt_append (pv 4) (pa_cons (pe_ifExp (pt_cmpR (op_eqK (K := K) hr.units) (pv 6) pe_int (nomark _)) (pe_op (op_addK (K := K)) (pe_op op_mul (pv 7) (pe_op op_pow pe_int pe_int)) (pe_c c__law_take hr (by decide) (by rfl) (pa_cons (pv 0) (pa_cons (pe_op op_pow pe_int pe_int) pa_nil)))) (pv 7)) pa_nil)))))))) (pss_one (ps_ret (pe_callTy (call_tupK (K := K)) (by rfl) B.n_tuple (by decide +kernel) (pa_cons (pv 4) pa_nil)))))), fun p a ha => ?_⟩
  obtain ⟨seats, ls, rows⟩ := a
  have hP : PlanW seats ls rows := ha
  have hn4 := hP.s.n4
  have e0 : planD seats ls rows = .lst [.lst (strsD seats), .lst (lnsD ls), .lst (rwsD rows)] := rfl
  refine run_seq (N1 := fun G => ∃ (xs : List Int) (q : Addr) (wy : Nat), (IntsOk xs ∧ 1 ≤ xs.length ∧ xs.length ≤ 100) ∧ wy < 5 ∧ G = [.sr p, .da (planD seats ls rows), .un, .da (.lst (intsD xs)), .ow q [], .da (.int (wy : Int)), .un, .un])
    (run_par3M (p := fun d => ∃ xs : List Int, d = .lst (intsD xs) ∧ IntsOk xs ∧ 1 ≤ xs.length ∧ xs.length ≤ 100) (q := fun d => ∃ r : Nat, d = .int (r : Int) ∧ r < 5) (eg_callX (⟨seats, ls, rows⟩ : WhIn) (ea_1 (eg_var rfl)) hP fun d h => h) (ed_take (n := 5) rfl eg_int (by decide) (by decide)) rfl rfl rfl rfl rfl rfl (by decide) (by decide) (by decide)
      fun d r e ⟨xs, ed, h⟩ ⟨wy, ee, hw⟩ => ⟨xs, r, wy, h, hw, by rw [ed, ee]; rfl⟩) fun G1 hG => ?_
  obtain ⟨xs, q, wy, ⟨hxo, hx1, hx2⟩, hw, rfl⟩ := hG
  rw [e0]
  refine run_seq (N1 := fun G => ∃ (bids : List Int) (s2 s6 s7 : Sl), G = [.sr p, .da (.lst [.lst (strsD seats), .lst (lnsD ls), .lst (rwsD rows)]), s2, .da (.lst (intsD xs)), .ow q (intsD bids), .da (.int (wy : Int)), s6, s7] ∧ BidsOk bids ∧ bids.length = seats.length)
    (run_forD (ds := strsD seats) (fun i G => ∃ (bids : List Int) (s2 s6 s7 : Sl), G = [.sr p, .da (.lst [.lst (strsD seats), .lst (lnsD ls), .lst (rwsD rows)]), s2, .da (.lst (intsD xs)), .ow q (intsD bids), .da (.int (wy : Int)), s6, s7] ∧ (s2.ad = none ∧ s6.ad = none ∧ s7.ad = none) ∧ BidsOk bids ∧ bids.length = i)
      (wk_any1 (d := .lst (strsD seats)) (ed_ixL (eg_var rfl) eg_int at0) rfl) ⟨[], .un, .un, .un, rfl, ⟨rfl, rfl, rfl⟩, fun b hb => by (cases hb), rfl⟩ (fun i d G1 hd hI => ?_) fun G1 hI => ?_) fun G1 hG => ?_
  · obtain ⟨bids, s2, s6, s7, rfl, ⟨a2, a6, a7⟩, hbo, hbl⟩ := hI
    obtain ⟨x, hx, rfl⟩ := strsD_get hd
    have hlt : i < seats.length := (List.getElem?_eq_some_iff.mp hx).1
    refine ⟨[2], _, gg_name (i := 2) rfl a2 (by simp), ?_⟩
    refine q_setP (i := 6) (s := s6) (p := fun d => ∃ r : Nat, d = .int (r : Int) ∧ r < 4) (eg_if (p := (· = decide ((wy : Int) < 4))) (et_tst1 (ed_lt (eg_var rfl) eg_int)) (fun z => eg_imp (eg_var rfl) fun d e => ⟨wy, e, ?_⟩) fun _ => ed_take (n := 4) rfl eg_int (by decide) (by decide)) (fun d hd => ?_) rfl a6
    · have := of_decide_eq_true z.symm
      omega
    obtain ⟨hr', rfl, hh4⟩ := hd
    obtain ⟨o1, o2⟩ := offN_ok hr' hh4
    refine q_setP (i := 7) (s := s7) (p := fun d => ∃ r : Nat, d = .int (r : Int) ∧ r < offN.getD hr' 0) (ed_take (n := offN.getD hr' 0) rfl (ed_ixL (ds := natsD offN) (ed_lst (ea_c eg_int (ea_c eg_int (ea_c eg_int (ea_c ed_p6 ea_nil)))) (by decide)) (eg_var rfl) (nats_at hh4)) o1 o2) (fun d hd => ?_) rfl a7
    obtain ⟨nb, rfl, hnb⟩ := hd
    refine run_seq (N1 := fun G => ∃ k : Int, 0 ≤ k ∧ k ≤ 1000001000000 ∧ (hr' = 3 → k < 1000000) ∧ G = [.sr p, .da (.lst [.lst (strsD seats), .lst (lnsD ls), .lst (rwsD rows)]), .da (.str x), .da (.lst (intsD xs)), .ow q (intsD bids), .da (.int (wy : Int)), .da (.int (hr' : Int)), .da (.int k)])
      (run_if (p := (· = decide ((hr' : Int) = 2))) (et_tst1 (ed_eqI (eg_var rfl) eg_int)) (fun z => ?_) fun z => run_next ⟨(nb : Int), by omega, by omega, fun e => ?_, rfl⟩) fun G2 hG => ?_
    · have h2 : hr' = 2 := by have := of_decide_eq_true z.symm; omega
      refine run_set (i := 7) (s := .da (.int (nb : Int))) (p := fun d => ∃ k : Int, d = .int k ∧ 0 ≤ k ∧ k ≤ 1000001000000) (eg_cb (px := fun ds => ∃ k : Int, ds = [.int 0, .int k] ∧ k ≤ 1000001000000) (ea_cons (px := (· = .int 0)) (py := fun ds => ∃ k : Int, ds = [.int k] ∧ k ≤ 1000001000000) eg_int (ea_cons (px := fun d => ∃ k : Int, d = .int k ∧ k ≤ 1000001000000) (eg_op (px := fun d => ∃ k : Int, d = .int k ∧ k ≤ 1000001000000) (py := (· = .int 1)) (ei_add (p := fun k => 0 ≤ k ∧ k ≤ 1000000000000) (q := fun k => k = (nb : Int)) (eg_op (px := (· = .lst (intsD xs))) (py := fun d => ∃ r : Nat, d = .int (r : Int) ∧ r < xs.length) (eg_var rfl) (ed_take (n := xs.length) rfl (ed_cb (ea_1 (eg_var rfl)) (rc_len (d := .lst (intsD xs)) (by show some _ = some _; rw [intsD_len]) (by omega) rfl)) (by omega) (by omega)) fun a b ea ⟨r, eb, hr⟩ => ?_) (ei_eq (eg_var rfl)) fun i j hi hj => by omega) eg_int fun a b ⟨k, ea, hk⟩ eb => ?_) ea_nil fun a b ⟨k, ea, hk⟩ eb => ⟨k, by rw [ea, eb], hk⟩) fun a b ea ⟨k, eb, hk⟩ => ⟨k, by rw [ea, eb], hk⟩) fun ds ⟨k, e, hk⟩ => ?_) rfl rfl fun d ⟨k, e, h0, h1⟩ => ⟨k, h0, h1, fun z3 => by omega, by rw [e]; rfl⟩
      · subst ea eb
        have hg : xs[r]? = some xs[r] := List.getElem?_eq_getElem hr
        refine r2_ixAL (d := .int xs[r]) (atI_nat ?_) ⟨_, rfl, hxo _ (List.getElem_mem hr)⟩
        unfold intsD
        rw [List.getElem?_map, hg]
        rfl
      · subst ea eb
        exact fun P H v w Q t d1 d2 kk => ⟨k, 1, d1, d2, rv_out kk ⟨_, rfl, by omega⟩ rfl⟩
      · subst e
        refine rc_max ⟨_, rfl, ?_, ?_⟩
        · split <;> omega
        · split <;> omega
    · subst e
      have e3 : offN.getD 3 0 = 1000000 := rfl
      rw [e3] at hnb
      omega
    obtain ⟨k, hk0, hk1, hk3, rfl⟩ := hG
    refine run_app (i := 4) (p := q) (ds := intsD bids) (q := fun d => ∃ b : Int, d = .int b ∧ 0 ≤ b ∧ b < 10 ^ 40) rfl (eg_if (p := (· = decide ((hr' : Int) = 3))) (et_tst1 (ed_eqI (eg_var rfl) eg_int)) (fun z => ?_) fun z => eg_imp (eg_var rfl) fun d e => ⟨k, e, hk0, by omega⟩) (by rw [intsD_len]; omega) fun d ⟨b, ed, hb⟩ => ?_
    · have h3 : hr' = 3 := by have := of_decide_eq_true z.symm; omega
      have hk := hk3 h3
      refine eg_imp (ei_add (p := fun m => m = k * 10 ^ 33) (q := fun j => ∃ r : Nat, j = (r : Int) ∧ r < 1000000) (r := fun b => 0 ≤ b ∧ b < 10 ^ 40) (ei_eq (ed_mul (eg_var rfl) (eg_eq (ed_pow eg_int eg_int ⟨by decide, by decide, by decide⟩) (congrArg Dt.int (show (10 : Int) ^ (33 : Int).toNat = 10 ^ 33 by rfl))) (.inl ⟨by omega, by omega⟩))) (eg_imp (ed_take (n := 1000000) rfl ed_p6 (by decide) (by decide)) fun d ⟨r, e, h⟩ => ⟨_, e, r, rfl, h⟩) fun i j ei ⟨r, ej, h⟩ => ?_) fun d h => h
      subst ei ej
      constructor <;> omega
    · subst ed
      refine ⟨bids ++ [b], .da (.str x), .da (.int (hr' : Int)), .da (.int k), ?_, ⟨rfl, rfl, rfl⟩, fun c hc => ?_, by rw [List.length_append, hbl]; rfl⟩
      · rw [← ints_app]
        rfl
      · rcases List.mem_append.mp hc with z | z
        · exact hbo c z
        · rw [List.mem_singleton.mp z]; exact hb
  · obtain ⟨bids, s2, s6, s7, rfl, _, h⟩ := hI
    rw [strsD_len] at h
    exact ⟨bids, s2, s6, s7, rfl, h⟩
  obtain ⟨bids, s2, s6, s7, rfl, hbo, hbl⟩ := hG
  exact run_ret (eg_imp (eg_tupO (i := 4) (p := q) rfl) fun d e => ⟨bids, e, hbo, hbl⟩)
/-! ### the values, reckoned by the law -/
abbrev sp_worth (K : KX) : Sp := spX K (fun a : PwIn => [a.p.d, .dic (wsD a.ws)]) (fun a => a.p.has a.ws) (fun a e => e = .int (a.p.val a.ws))
structure WosIn where
  seats : List Str
  ls : List Ln
  rows : List Row
  bids : List Int
def WosIn.ok (a : WosIn) : Prop := PlanOk a.seats a.ls a.rows ∧ a.bids.length = a.seats.length
abbrev sp_lworths (K : KX) : Sp := spX K (fun a : WosIn => [planD a.seats a.ls a.rows, .tup (intsD a.bids)]) WosIn.ok (fun a e => e = .dic (wsD (worthsL (a.seats.zip a.bids) a.ls)))
end
end Sb

set_option Elab.async false
set_option linter.all false
set_option maxRecDepth 100000
set_option autoImplicit false
namespace Sb
open PySem PySem.Spec PyProof.Rows L2 TL
abbrev s__law_source : Stmt := top 47
abbrev N__law_source : List Str := ["_law_script", "_law_k", "_law_seed", "_law_cell", "_law_digits"]
abbrev A__law_source : List Str := ["_law_script", "_law_k"]
theorem sc__law_source : FnScope N__law_source A__law_source (defScope s__law_source) :=
  ⟨rfl, rfl, rfl, by decide +kernel, rfl, by decide +kernel, by decide +kernel⟩
abbrev s_law : Stmt := top 55
abbrev N_law : List Str := ["_law_script", "_law_k"]
abbrev A_law : List Str := ["_law_script"]
theorem sc_law : FnScope N_law A_law (defScope s_law) :=
  ⟨rfl, rfl, rfl, by decide +kernel, rfl, by decide +kernel, by decide +kernel⟩
section
variable {P : Program} {w : World} {K : KX} {mg : Str → Option Value} {base : Heap} {aS aO C : Addr}
/-! ### the source -/
def sp_source (K : KX) : Sp := fun vs H Q _ => ∃ (a : Addr) (k : Nat) (ns : List Int), vs = [.ref a, .int (k : Int)] ∧ Tb K H ∧ SqL K H a (ns.map V.int) ∧ ns.length ≤ 63 ∧ ∀ p x y z H', (∀ o, NT o → H p ≠ some o) → ExN H H' → Tb K H' → H' p = some (.lst [.int x, .int y, .int z]) → Q (.ref p) H'
theorem hold_ex {B : Hp} {G : List Sl} {H : Hp} {σ : L2.St} (h : Hold K B [] [] G H σ) : ExN B H := fun a o e nt => (hid_some (h.ex a o e nt (by simp))).2
theorem ex_none {H H1 : Hp} {p : Addr} (e : ExN H H1) (h : H1 p = none) : ∀ o, NT o → H p ≠ some o := fun o n q => by
  rw [e p o q n] at h
  cases h
theorem src_fin {B H0 H : Hp} {G : List Sl} {σ : L2.St} {D : Ends} {tA : TA} (hh : Hold K B [] [] G H σ) (hB : ExN H0 B) (he : Ea K [] G tA (fun ds => ∃ x y z, ds = [.int x, .int y, .int z]))
    (k : ∀ p x y z H', (∀ o, NT o → H0 p ≠ some o) → ExN H0 H' → Tb K H' → H' p = some (.lst [.int x, .int y, .int z]) → D.rt (.ref p) H') : tRet (tLst tA) D σ H :=
  he B [] σ H hh _ fun vs H1 ds hd h1 g1 d1 => by
    obtain ⟨x, y, z, rfl⟩ := hd
    have ev : vs = [.int x, .int y, .int z] := dnA_v d1 rfl
    subst ev
    have e01 : ExN H0 H1 := hB.trans (hold_ex h1)
    exact ⟨by show 3 ≤ sizeLine; decide, fun p hp => k p x y z _ (ex_none e01 hp) (e01.trans (new_ex hp).n) (h1.tb.ext (new_ex hp)) upd_same⟩
theorem ea_3i {S : List Addr} {G : List Sl} {ta tb tc : TE} (ha : Eg K S G ta isI) (hb : Eg K S G tb isI) (hc : Eg K S G tc isI) : Ea K S G (tCons ta (tCons tb (tCons tc tNil))) (fun ds => ∃ x y z, ds = [.int x, .int y, .int z]) :=
  ea_cons ha (ea_2p hb hc) fun a b ⟨x, ex⟩ ⟨c, d, ⟨y, ey⟩, ⟨z, ez⟩, e⟩ => ⟨x, y, z, by rw [ex, e, ey, ez]⟩
theorem isi_of {S : List Addr} {G : List Sl} {te : TE} {k : Int} (h : Eg K S G te (· = .int k)) : Eg K S G te isI := eg_imp h fun d e => ⟨k, e⟩
theorem et_any {S : List Addr} {G : List Sl} {ta tb : TE} {g : Int → Int → Bool} (ha : Eg K S G ta isI) (hb : Eg K S G tb isI) : Et K S G (tTest (tOp (rI0 fun i j => .bl (g i j)) ta tb)) (fun _ => True) := et_tst (eg_op ha hb fun x y ⟨i, ei⟩ ⟨j, ej⟩ => by
  subst ei ej
  exact fun P H v w Q t d1 d2 k => ⟨i, j, d1, d2, rv_out k ⟨_, rfl, trivial⟩ rfl⟩)
theorem ok__law_source {f : Addr} {fd : FuncData} (F : Fun K "_law_source" "_law_source" s__law_source f fd) (B : Bf K mg aS aO) : FnOk P w K mg base CX0 1 f fd A__law_source (sp_source K) := by
  refine F.ok sc__law_source (fun vs H Q E h => by obtain ⟨a, k, ns, rfl, _⟩ := h; rfl) fun cdv A outer s H vs Q E hr h => ⟨_, (pss_cons (ps_set (i := 2) sc__law_source.nd rfl (Or.inl rfl) (pe_op (op_addK (K := K)) (pe_op op_mul pe_int (pv 1)) pe_int)) (pss_cons (ps_if (pt_cmpR op_lt (pv 1) (pe_callB (call_lenK (K := K)) (by rfl) B.n_len (by decide +kernel) (pa_cons (pv 0) pa_nil)) (nomark _)) (pss_cons (ps_set (i := 3) sc__law_source.nd rfl (Or.inl rfl) (pe_ix (ix_anyK (K := K)) (pv 0) (pv 1) (fun _ _ => rfl))) (pss_cons (ps_set (i := 4) sc__law_source.nd rfl (Or.inl rfl) (pe_ifExp ((pw_or (pt_cmpR op_lt (pv 3) pe_int (nomark _)) (pw_or1 (pt_cmpR op_ge (pv 3) (pe_op op_pow pe_int pe_int) (nomark _))))).pt (pe_callB call_abs (by rfl) B.n_abs (by decide +kernel) (pa_cons (pv 3) pa_nil)) pe_int)) (pss_one (ps_ret (pe_lst (pa_cons (pv 4) (pa_cons (pe_op op_mod (pe_callTy call_intA (by rfl) B.n_int (by decide +kernel) (pa_cons (pe_op (op_addK (K := K)) (pe_op op_mul (pv 3) pe_int) (pv 2)) pa_nil)) pe_int) (pa_cons pe_int pa_nil)))))))) pss_nil) (pss_cons (ps_for PassesOwn.never rfl (pi_anyK (K := K) (pe_slice (sl_anyK (K := K)) (pv 0) po_none (po_some pe_int))) (pg_name (i := 3) sc__law_source.nd rfl (Or.inl rfl)) (pss_one (ps_set (i := 2) sc__law_source.nd rfl (Or.inl rfl) (pe_op op_mod (pe_callTy call_intA (by rfl) B.n_int (by decide +kernel) (pa_cons (pe_op (op_addK (K := K)) (pe_op op_mul (pv 2) pe_int) (pv 3)) pa_nil)) pe_int)))) (pss_one (ps_ret (pe_lst (pa_cons pe_int (pa_cons (pv 2) (pa_cons pe_int pa_nil))))))))), ?_⟩
  obtain ⟨a, k, ns, rfl, tb, hq, hl, kk⟩ := h
  have h0 : Hold K H [] [] [.rf a, .da (.int (k : Int)), .un, .un, .un] H (L2.start N__law_source [.ref a, .int (k : Int)]) := by
    have ep : pof [] [.rf a, .da (.int (k : Int)), .un, .un, .un] = [] := rfl
    refine ⟨rfl, fun i s e => ?_, by rw [ep]; exact List.nodup_nil, rfl, fun b o e _ _ => by rw [ep, hid_out (by simp)]; exact e, fun q hq => (nomatch hq), fun q hq => (nomatch hq), tb⟩
    rw [ep]
    match i, e with
    | 0, e => cases e; exact ⟨_, rfl, rfl⟩
    | 1, e => cases e; exact ⟨_, rfl, _, rfl, rfl⟩
    | 2, e => cases e; exact ⟨_, rfl, trivial⟩
    | 3, e => cases e; exact ⟨_, rfl, trivial⟩
    | 4, e => cases e; exact ⟨_, rfl, trivial⟩
    | n + 5, e => simp at e
  generalize L2.start N__law_source [V.ref a, .int (k : Int)] = σ at h0
  refine hold_seq (N1 := fun G => ∃ sd : Int, G = [.rf a, .da (.int (k : Int)), .da (.int sd), .un, .un]) (run_set (i := 2) (s := .un) (p := isI) (isi_of (ed_addI (ed_mul eg_int (eg_var rfl) (.inl ⟨by decide, by decide⟩)) eg_int)) rfl rfl fun d ⟨j, e⟩ => ⟨j, by rw [e]; rfl⟩) h0 fun G1 σ1 H1 hG h1 => ?_
  obtain ⟨sd, rfl⟩ := hG
  have e01 : ExN H H1 := hold_ex h1
  have hq1 : SqL K H1 a (ns.map V.int) := e01.sqL hq
  have s0 : σ1[0]? = some (some (.ref a)) := by
    obtain ⟨o, e, z⟩ := h1.sl 0 _ rfl
    rw [e, show o = _ from z]
  have s1 : σ1[1]? = some (some (.int (k : Int))) := by
    obtain ⟨o, e, v, z, z2⟩ := h1.sl 1 _ rfl
    rw [e, z, show v = _ from z2]
  refine ⟨.int (k : Int), s1, .ref a, s0, .ref a, ns.length, rfl, .inl ⟨_, hq1, by rw [List.length_map]⟩, (k : Int), (ns.length : Int), rfl, rfl, _, rfl, ?_⟩
  by_cases hk : k < ns.length
  · rw [decide_eq_true (by omega)]
    refine iteT ?_
    have hget : (ns.map V.int)[k]? = some (.int ns[k]) := by rw [List.getElem?_map, List.getElem?_eq_getElem hk]; rfl
    refine ⟨.ref a, s0, .int (k : Int), s1, .inl ⟨a, _, (k : Int), .int ns[k], rfl, rfl, hq1, atI_nat hget, ?_⟩⟩
    have h2 := h1.set (i := 3) (d := .int ns[k]) (v := .int ns[k]) rfl rfl rfl
    dsimp only [tSeq]
    show tSeq (tAsg _ _) _ _ (σ1.set 3 (some (.int ns[k]))) H1
    refine hold_seq (N1 := fun G => ∃ dg : Int, G = [.rf a, .da (.int (k : Int)), .da (.int sd), .da (.int ns[k]), .da (.int dg)]) (run_set (i := 4) (s := .un) (p := isI) (eg_if (p := fun _ => True) (et_or (p := fun _ => True) (q := fun _ => True) (et_any (g := fun i j => decide (i < j)) (isi_of (eg_var rfl)) (isi_of eg_int)) (fun _ => et_any (g := fun i j => decide (j ≤ i)) (isi_of (eg_var rfl)) (isi_of (ed_pow eg_int eg_int ⟨by decide, by decide, by decide⟩))) (fun _ => trivial) fun _ _ _ => trivial)
      (fun _ => eg_cb (ea_1p (isi_of (eg_var rfl))) fun ds ⟨x, ⟨i, ex⟩, e⟩ => ?_) fun _ => isi_of eg_int) rfl rfl fun d ⟨j, e⟩ => ⟨j, by rw [e]; rfl⟩) h2 fun G2 σ2 H2 hG h2 => ?_
    · subst e ex
      intro P H vs Q t dn k
      obtain ⟨v, r, rfl, d1, d2⟩ := dn
      cases (show r = [] from d2)
      cases (show v = _ from d1)
      exact ⟨i, rfl, rv_out k ⟨_, rfl⟩ rfl⟩
    obtain ⟨dg, rfl⟩ := hG
    exact src_fin h2 (ExN.refl H) (ea_3i (isi_of (eg_var rfl)) (isi_of (ed_mod (ed_cb (ea_1 (ed_addI (ed_mul (eg_var rfl) eg_int (.inr ⟨by decide, by decide⟩)) (eg_var rfl))) (rc_intI rfl)) eg_int (by decide))) (isi_of eg_int)) kk
  · rw [decide_eq_false (by omega)]
    refine iteF ?_
    show tSeq _ _ _ σ1 H1
    refine ⟨.ref a, s0, 4, rfl, .inl ⟨a, _, rfl, hq1, fun p2 hp2 => .inl ⟨p2, rfl, ⟨_, SqL.of upd_same⟩, ?_⟩⟩⟩
    have h2 : Hold K H [] [] [.rf a, .da (.int (k : Int)), .da (.int sd), .un, .un] (upd H1 p2 (.lst (cutV (ns.map V.int) none (some 4)))) σ1 := h1.more (new_ex hp2)
    have ep : ∀ {G : List Sl}, ads G = [] → pof [] G = [] := fun e => by unfold pof; rw [e]; rfl
    have hB : ExN H (hid (upd H1 p2 (.lst (cutV (ns.map V.int) none (some 4)))) (pof [] [.rf a, .da (.int (k : Int)), .da (.int sd), .un, .un])) := fun b o e nt => h2.ex b o e nt (by simp)
    have hat : hid (upd H1 p2 (.lst (cutV (ns.map V.int) none (some 4)))) (pof [] [.rf a, .da (.int (k : Int)), .da (.int sd), .un, .un]) p2 = some (.lst (cutV (ns.map V.int) none (some 4))) := by
      rw [ep rfl, hid_out (by simp)]
      exact upd_same
    have hcell : ∀ {i : Nat} {x : V}, (cutV (ns.map V.int) none (some 4))[i]? = some x → ∃ c : Int, x = .int c := fun {i x} e => by
      have hm : x ∈ ns.map V.int := List.mem_of_mem_drop (List.mem_of_mem_take (List.mem_of_getElem? e))
      obtain ⟨c, _, rfl⟩ := List.mem_map.mp hm
      exact ⟨c, rfl⟩
    have h3 := h2.rebase
    generalize cutV (ns.map V.int) none (some 4) = xs at h2 h3 hB hat hcell
    generalize hid (upd H1 p2 (.lst xs)) (pof [] [.rf a, .da (.int (k : Int)), .da (.int sd), .un, .un]) = B2 at h3 hB hat
    refine ⟨fun i m σ' H' => m = xs.length - i ∧ i ≤ xs.length ∧ ∃ (sd : Int) (s3 : Sl), s3.ad = none ∧ Hold K B2 [] [] [.rf a, .da (.int (k : Int)), .da (.int sd), s3, .un] H' σ', ⟨xs.length, by omega, by omega, sd, .un, rfl, ?_⟩, ?_⟩
    · exact h3
    · rintro i m σ' H' ⟨rfl, hi, sd, s3, a3, hG⟩
      have hx : H' p2 = some (.lst xs) := hold_ex hG _ _ hat nt_lst
      by_cases hlt : i < xs.length
      · refine .inr ⟨⟨xs, _, SqL.of hx, List.getElem?_eq_getElem hlt⟩, fun σ2 H2 => ∃ (sd : Int) (s3 : Sl), s3.ad = none ∧ Hold K B2 [] [] [.rf a, .da (.int (k : Int)), .da (.int sd), s3, .un] H2 σ2, fun σ2 H2 h2 => ⟨xs.length - (i + 1), by omega, rfl, by omega, h2⟩, fun x H2 y => ?_⟩
        obtain ⟨rfl, hy⟩ := y
        obtain ⟨c, rfl⟩ := hcell (hy xs (SqL.of hx))
        have h3 := hG.set (i := 3) (d := .int c) (v := .int c) rfl a3 rfl
        refine run_set (N := fun G => ∃ (sd : Int) (s3 : Sl), s3.ad = none ∧ G = [.rf a, .da (.int (k : Int)), .da (.int sd), s3, .un]) (R := fun _ => False) (Bk := fun _ => False) (i := 2) (s := .da (.int sd)) (p := isI) (isi_of (ed_mod (ed_cb (ea_1 (ed_addI (ed_mul (eg_var rfl) eg_int (.inr ⟨by decide, by decide⟩)) (eg_var rfl))) (rc_intI rfl)) eg_int (by decide))) rfl rfl (fun d ⟨j, e⟩ => ⟨j, .da (.int c), rfl, by rw [e]; rfl⟩) B2 [] _ _ _ h3 (fun G4 σ4 H4 ⟨sd, s3, a3, e⟩ h4 => ⟨sd, s3, a3, by rw [← e]; exact h4⟩) (fun _ _ _ r => r.elim) fun _ _ _ r => r.elim
      · have e : i = xs.length := by omega
        refine .inl ⟨⟨xs, SqL.of hx, by omega⟩, ?_⟩
        exact src_fin hG hB (ea_3i (isi_of eg_int) (isi_of (eg_var rfl)) (isi_of eg_int)) kk
/-! ### the law -/
abbrev sp_right (K : KX) : Sp := spXS K (fun _ : Unit => []) (fun _ => True) (fun _ e => e = .bl true)
def sp_law (K : KX) : Sp := fun vs H Q _ => ∃ (a : Addr) (ns : List Int), vs = [.ref a] ∧ ns.length ≤ 63 ∧ Tb K H ∧ SqL K H a (ns.map V.int) ∧ ∀ H', Q (.bl true) H'
theorem sqL_past {H H1 H2 : Hp} {a p : Addr} {xs : List V} (h : SqL K H a xs) (hp : ∀ o, NT o → H p ≠ some o) (e1 : ExN H H1) (e2 : ∀ b o, b ≠ p → H1 b = some o → NT o → H2 b = some o) : SqL K H2 a xs := by
  have key : ∀ {o : HO}, NT o → H a = some o → H2 a = some o := fun {o} n h => e2 _ _ (fun z => hp o n (by rw [← z]; exact h)) (e1 _ _ h n) n
  rcases h with (h | ⟨o, h⟩) | h
  · exact .inl (.inl (key nt_lst h))
  · exact .inl (.inr ⟨o, key nt_frz h⟩)
  · exact .inr h
theorem ok_law {f : Addr} {fd : FuncData} (F : Fun K "law" "law" s_law f fd) (B : Bf K mg aS aO) (c__law_source : Cal P w K mg base 1 "_law_source" (sp_source K)) {kr : Nat} (c__law_right : CalG P w K mg base kr "_law_right" (sp_right K)) (hkr : 1 ≤ kr) : FnG P w K mg base (kr + 1) f fd A_law (sp_law K) := by
  refine fun_okG F sc_law (fun vs H Q E h => by obtain ⟨a, ns, rfl, _⟩ := h; rfl) fun cdv A outer s H vs Q E gd hr h => ⟨_, (pss_cons (ps_for PassesOwn.never rfl (pi_range1 rfl B.n_range (pa_cons (pe_callB (call_max2 rfl) (by rfl) B.n_max (by decide +kernel) (pa_cons pe_int (pa_cons (pe_callB (call_min2 rfl) (by rfl) B.n_min (by decide +kernel) (pa_cons (pe_callB (call_lenK (K := K)) (by rfl) B.n_len (by decide +kernel) (pa_cons (pv 0) pa_nil)) (pa_cons pe_int pa_nil))) pa_nil))) pa_nil)) (pg_name (i := 1) sc_law.nd rfl (Or.inl rfl)) (pss_one (ps_if (pt_not (pt_val (pe_cG c__law_right gd hr (Nat.le_refl _) (by rfl) (pa_cons (pe_c c__law_source hr hkr (by rfl) (pa_cons (pv 0) (pa_cons (pv 1) pa_nil))) pa_nil)))) (pss_one (ps_ret pe_bl)) pss_nil))) (pss_one (ps_ret pe_bl))), ?_⟩
  obtain ⟨a, ns, rfl, hl, tb0, hq, kk⟩ := h
  have s0 : (L2.start N_law [V.ref a])[0]? = some (some (.ref a)) := rfl
  have sl : (L2.start N_law [V.ref a]).length = 2 := rfl
  generalize L2.start N_law [V.ref a] = σ at s0 sl
  refine ⟨.ref a, s0, .ref a, ns.length, rfl, .inl ⟨_, hq, by rw [List.length_map]⟩, (ns.length : Int), 5, rfl, 2, _, rfl, _, rfl, ?_, ?_, ?_⟩
  · split <;> split <;> omega
  · split <;> split <;> omega
  generalize (if (if (5 : Int) < (ns.length : Int) then (5 : Int) else (ns.length : Int)) > 2 then (if (5 : Int) < (ns.length : Int) then (5 : Int) else (ns.length : Int)) else 2).toNat = n
  refine ⟨fun i m σ' H' => m = n - i ∧ i ≤ n ∧ σ'[0]? = some (some (.ref a)) ∧ σ'.length = 2 ∧ Tb K H' ∧ SqL K H' a (ns.map V.int), ⟨n, by omega, by omega, s0, sl, tb0, hq⟩, ?_⟩
  rintro i m σ' H' ⟨rfl, hi, t0, tl, tb1, hq'⟩
  by_cases hlt : i < n
  · refine .inr ⟨hlt, fun σ2 H2 => σ2[0]? = some (some (.ref a)) ∧ σ2.length = 2 ∧ Tb K H2 ∧ SqL K H2 a (ns.map V.int), fun σ2 H2 h2 => ⟨n - (i + 1), by omega, rfl, by omega, h2⟩, fun x H2 y => ?_⟩
    obtain ⟨rfl, rfl⟩ := y
    have u0 : (σ'.set 1 (some (.int (0 + (i : Int)))))[0]? = some (some (.ref a)) := by rw [List.getElem?_set_ne (by decide)]; exact t0
    have u1 : (σ'.set 1 (some (.int (0 + (i : Int)))))[1]? = some (some (.int (0 + (i : Int)))) := List.getElem?_set_self (by omega)
    have ul : (σ'.set 1 (some (.int (0 + (i : Int))))).length = 2 := by rw [List.length_set]; exact tl
    refine ⟨.ref a, u0, .int (0 + (i : Int)), u1, a, i, ns, by rw [show (0 + (i : Int)) = (i : Int) by omega]; rfl, tb1, hq', hl, fun p x y z H3 hp e3 tb3 h3 => ?_⟩
    refine ⟨(), trivial, [p], p, [], [], rfl, by simp, ⟨x, y, z, h3⟩, fun b hb => by rw [List.mem_singleton.mp hb]; exact ⟨_, h3, nt_lst⟩, by simp, tb3, rfl, rfl, fun v d H4 hd hs4 e4 tb4 dn => ?_⟩
    have hd : d = .bl true := hd
    subst hd
    cases (show v = _ from dn)
    refine ⟨true, rfl, iteF ?_⟩
    exact ⟨u0, ul, tb4, sqL_past hq' hp e3 e4⟩
  · refine .inl ⟨by show n ≤ i; omega, ?_⟩
    exact kk _
end
end Sb

set_option Elab.async false
set_option linter.all false
set_option maxRecDepth 100000
set_option autoImplicit false
namespace Sb
open PySem PySem.Spec PyProof.Rows L2 TL
/-! ### values are small enough to be shown -/
def WsOk (ws : List (Str × Int)) : Prop := ∀ q ∈ ws, 0 ≤ q.2 ∧ q.2 < 10 ^ 40
theorem lookup_mem {x : Str} {v : Int} : ∀ {ws : List (Str × Int)}, ws.lookup x = some v → (x, v) ∈ ws
  | [], h => by cases h
  | (y, u) :: ws, h => by
    rw [List.lookup_cons] at h
    cases q : x == y with
    | true =>
      rw [q] at h
      have e : x = y := by simpa using q
      rw [e, ← Option.some.inj h]
      exact List.mem_cons_self
    | false =>
      rw [q] at h
      exact List.mem_cons_of_mem _ (lookup_mem h)
theorem getD_ok {ws : List (Str × Int)} (h : WsOk ws) (x : Str) : 0 ≤ (ws.lookup x).getD 0 ∧ (ws.lookup x).getD 0 < 10 ^ 40 := by
  cases e : ws.lookup x with
  | none => exact ⟨Int.le_refl 0, by decide⟩
  | some v => exact h _ (lookup_mem e)
theorem pval_ok {ws : List (Str × Int)} (h : WsOk ws) {ns : List Str} {p : Pt} (hp : p.ok ns) : 0 ≤ p.val ws ∧ p.val ws < 10 ^ 40 := by
  cases p with
  | nm x => exact getD_ok h x
  | nu n =>
    have hn : n ≤ 1000000000000 := hp
    show 0 ≤ (n : Int) ∧ (n : Int) < 10 ^ 40
    constructor <;> omega
theorem tval_ok {ws : List (Str × Int)} (h : WsOk ws) {ns : List Str} {t : Term} (ht : t.ok ns) : 0 ≤ t.val ws ∧ t.val ws < 10 ^ 40 := by
  unfold Term.val
  rw [List.getD_eq_getElem?_getD]
  cases e : (srt (t.vals ws))[if t.hi = true then t.ps.length - t.k else t.k - 1]? with
  | none => exact ⟨Int.le_refl 0, by decide⟩
  | some v =>
    have hm : v ∈ t.vals ws := (srt_perm _).mem_iff.mp (List.mem_of_getElem? e)
    unfold Term.vals at hm
    obtain ⟨p, hp, rfl⟩ := List.mem_map.mp hm
    exact pval_ok h (ht.ps p hp)
theorem worthsL_ok : ∀ {ls : List Ln} {ws : List (Str × Int)}, WsOk ws → (∀ l ∈ ls, ∃ ns, l.t.ok ns) → WsOk (worthsL ws ls)
  | [], _, h, _ => h
  | l :: ls, ws, h, hl => worthsL_ok (ls := ls) (fun q hq => by
      rcases List.mem_append.mp hq with z | z
      · exact h q z
      · rw [List.mem_singleton.mp z]
        obtain ⟨ns, ht⟩ := hl l (by simp)
        exact tval_ok h ht) fun l' h' => hl l' (by simp [h'])
theorem plan_wsOk {seats : List Str} {ls : List Ln} {rows : List Row} {bids : List Int} (h : PlanOk seats ls rows) (hb : BidsOk bids) : WsOk (worthsL (seats.zip bids) ls) :=
  worthsL_ok (fun q hq => hb q.2 (List.of_mem_zip hq).2) fun l hl => by
    obtain ⟨ns, _, ht⟩ := line_in h.s h.l hl
    exact ⟨ns, ht⟩
def reprI (i : Int) : Str := (Dt.int i).py.shown
theorem log2_40 {i : Int} (h0 : 0 ≤ i) (h1 : i < 10 ^ 40) : i.natAbs.log2 < 1920 := by
  have hn : i.natAbs < 10 ^ 40 := by omega
  by_cases n0 : i.natAbs = 0
  · rw [n0]; decide
  · have h1 : Nat.log2 i.natAbs < 134 := (Nat.log2_lt n0).mpr (Nat.lt_of_lt_of_le hn (by decide))
    omega
section
variable {K : KX} {S : List Addr} {G : List Sl}
theorem rc_reprI {i : Int} (h0 : 0 ≤ i) (h1 : i < 10 ^ 40) : Rcv K (rRepr K) [.int i] (· = .str (reprI i)) := by
  refine rc_repr rfl ?_ rfl (Nat.le_of_ble_eq_true rfl) ?_ rfl
  · show decide (i.natAbs.log2 < 1920) = true
    exact decide_eq_true (log2_40 h0 h1)
  · obtain ⟨n, rfl⟩ : ∃ n : Nat, i = (n : Int) := ⟨i.toNat, by omega⟩
    show (num n).length ≤ 100000
    rw [len_cs, cs_num]
    exact Nat.le_trans (numL_len (k := 40) (by decide) (by omega)) (by decide)
theorem ed_reprI {te : TE} {i : Int} (h : Eg K S G te (· = .int i)) (h0 : 0 ≤ i) (h1 : i < 10 ^ 40) : Eg K S G (tCB (rRepr K) (tCons te tNil)) (· = .str (reprI i)) := ed_cb (ea_1 h) (rc_reprI h0 h1)
theorem ed_1take {i N : Nat} {p : Addr} {te : TE} (hi : G[i]? = some (.sr p)) (he : Eg K S G te (· = .int (N : Int))) (h0 : 0 < N) (h1 : N ≤ 1000000) : Eg K S G (tOp (rAddA K) (tC (.int 1)) (tCall (sp_take K) [] E0 (tCons (tVar i) (tCons te tNil)))) (fun d => ∃ n : Nat, d = .int (n : Int) ∧ 1 ≤ n ∧ n ≤ N) :=
  eg_imp (ei_add (p := fun i => i = 1) (q := fun j => ∃ r : Nat, j = (r : Int) ∧ r < N) (r := fun k => ∃ n : Nat, k = (n : Int) ∧ 1 ≤ n ∧ n ≤ N) (ei_eq eg_int) (eg_imp (ed_take (n := N) hi he h0 h1) fun d ⟨r, e, h⟩ => ⟨_, e, r, rfl, h⟩) fun i j ei ⟨r, ej, h⟩ => ⟨1 + r, by omega, by omega, by omega⟩) fun d ⟨k, e, n, en, h⟩ => ⟨n, by rw [e, en], h⟩
/-- plan[0] + [line[0] for line in plan[1]] -/
theorem ed_labels {i j : Nat} {seats : List Str} {ls : List Ln} {rows : List Row} (gi : G[i]? = some (.da (planD seats ls rows))) (gj : G[j]? = some .un) (hij : i ≠ j) (h4 : seats.length ≤ 4) (h8 : ls.length ≤ 8) :
    Eg K S G (tOp (rAddA K) (tOp (rIxA K) (tVar i) (tC (.int 0))) (tLc (iAny K (tOp (rIxA K) (tVar i) (tC (.int 1)))) (gName j) tYes (tOp (rIxA K) (tVar j) (tC (.int 0))) [j])) (· = .lst (strsD (seats ++ nmL ls))) := by
  have e0 : planD seats ls rows = .lst [.lst (strsD seats), .lst (lnsD ls), .lst (rwsD rows)] := rfl
  rw [e0] at gi
  refine eg_eq (ed_addL (i := strsD seats) (j := ls.map fun l => Dt.str l.n) (ed_ixL (eg_var gi) eg_int at0) (ed_lcG (xs := ls) (g := Ln.dl) (h := fun l => Dt.str l.n) gj (wk_any1 (d := .lst (lnsD ls)) (ed_ixL (eg_var gi) eg_int at1) rfl) (by omega) (fun x _ y _ e => ?_) fun l hl => ed_ixT (ds := [.str l.n, .str l.t.ord, .int (l.t.k : Int), .lst (ptsD l.t.ps)]) (eg_var ?_) eg_int at0) ?_) ?_
  · unfold Ln.dl at e
    injection e with e1
    injection e1
  · rw [List.getElem?_set_self (List.getElem?_eq_some_iff.mp gj).1]
    rfl
  · rw [strsD_len, List.length_map]
    omega
  · unfold strsD nmL
    rw [List.map_append, List.map_map]
    rfl
end
end Sb

set_option Elab.async false
set_option linter.all false
set_option maxRecDepth 100000
set_option autoImplicit false
namespace Sb
open PySem PySem.Spec PyProof.Rows L2 TL
/-! ### an own def called from below a builtin -/
section
variable {X : Cx} {k j : Nat} {f C : Addr} {fd : FuncData} {ps : List Str} {sp : Sp}
theorem env_at {A : Around} {pins : List (Addr × Obj)} {σ : L2.St} {H : Hp} {s : Shared} (I : Inv X pins σ H s) (hfr : A.frames = X.A.frames) : Env0 X.prog X.w X.K X.mg X.base A X.stack s H := by
  have e := I.env0
  exact ⟨by rw [hfr]; exact e.frames, e.mod, e.bs, e.bsz, e.funs, e.frf, e.hok, e.bare⟩
theorem run_fnA {A : Around} {pins : List (Addr × Obj)} {σ : L2.St} {H : Hp} {s : Shared} {Q : VK} {us : List Value} {vs : List V} (F : FnOk X.prog X.w X.K X.mg X.base CX0 k f fd ps sp) (hr : Room k A) (hfr : A.frames = X.A.frames) (hb : Binds X.K fd ps []) (I : Inv X pins σ H s) (r : Vals vs us) (h : sp vs H Q E0) :
    wpAny (model X.prog X.w) A (call (.ref f) us) (EP X pins σ Q) X.xe s := by
  have hl : (us ++ []).length = ps.length := by rw [List.append_nil, ← r.length]; exact F.len _ _ _ _ h
  have hb' := hb s us I.kIn hl
  rw [List.append_nil] at hb'
  refine wpAny_call (codeAny_mono (F.run A X.stack s H ⟨us, []⟩ us vs Q E0 hr (env_at I hfr) hb' r h) fun r s' hq => ?_)
  cases r with
  | error e => exact pass0 pins σ H s e s' I hq
  | ok fl =>
    cases fl with
    | ret u => exact I.after hq
    | next => exact False.elim hq
    | brk => exact False.elim hq
    | cont => exact False.elim hq
/-- len(o) -/
def rLenO (C : Addr) (sp : Sp) : List V → Hp → VK → Prop := fun xs H Q => ∃ a dx fs, xs = [.ref a] ∧ H a = some (.ins C dx fs) ∧ sp [.ref a] H (fun v H2 => ∃ n : Int, v = .int n ∧ (0 ≤ n ∧ n < 2 ^ 63) ∧ Q (.int n) H2) E0
theorem cr_lenO (c : Met X.prog X.w X.K X.mg X.base k C "__len__" sp) (hr : Room j X.A) (hk : k + 1 ≤ j) : CallR X (.builtin "len") (rLenO C sp) := by
  intro pins s σ H xs us Q I r h
  obtain ⟨a, dx, fs, rfl, ha, q⟩ := h
  obtain ⟨u, rfl, r1⟩ := vals1 r
  obtain rfl : u = Value.ref a := r1
  obtain ⟨f, fd, ps, c1, c2, F, b⟩ := c.ex
  obtain ⟨mA, J, _⟩ := ins_get I.hok ha
  obtain ⟨od, J, _⟩ := J.look
  obtain ⟨m, hF⟩ := I.fr
  refine PySem.W.len_K hF I.ok.mod.kin J c2.at_ c2.fn (wpAny_mono (run_fnA (vs := [.ref a]) F (hr.mono hk).in1 rfl b I (.cons rfl .nil) q) (fun r s' hr => ?_) fun _ _ y => y)
  obtain ⟨v, H', I', rv, n, rfl, hn, q⟩ := hr
  obtain ⟨t, rfl⟩ := rv
  exact ⟨hn, .int n, H', I'.tok _, ⟨_, rfl⟩, q⟩
/-- str(o) -/
def rStrO (C : Addr) (sp : Sp) : List V → Hp → VK → Prop := fun xs H Q => ∃ a dx fs, xs = [.ref a] ∧ H a = some (.ins C dx fs) ∧ sp [.ref a] H (fun v H2 => ∃ x : Str, v = .str x ∧ Q (.str x) H2) E0
theorem cr_strO (c : Met X.prog X.w X.K X.mg X.base k C "__str__" sp) (hr : Room j X.A) (hk : k + 2 ≤ j) : CallR X (.type "str") (rStrO C sp) := by
  intro pins s σ H xs us Q I r h
  obtain ⟨a, dx, fs, rfl, ha, q⟩ := h
  obtain ⟨u, rfl, r1⟩ := vals1 r
  obtain rfl : u = Value.ref a := r1
  obtain ⟨f, fd, ps, c1, c2, F, b⟩ := c.ex
  obtain ⟨mA, J, _⟩ := ins_get I.hok ha
  obtain ⟨od, J, _⟩ := J.look
  have hr2 : Room k X.A.in1.in1 := (hr.mono hk).in1.in1
  refine PySem.W.kso_call hr2.units0 I.kIn J c2.at_ c2.fn (wpAny_mono (run_fnA (vs := [.ref a]) F hr2 rfl b I (.cons rfl .nil) q) (fun r s' hr => ?_) fun _ _ y => y)
  obtain ⟨v, H', I', rv, x, rfl, q⟩ := hr
  obtain ⟨t, rfl⟩ := rv
  exact ⟨.str x, H', I', ⟨_, rfl⟩, q⟩
/-- o[i] -/
def rIxO (C : Addr) (sp : Sp) : R2 := fun x y H Q => ∃ a dx fs, x = .ref a ∧ H a = some (.ins C dx fs) ∧ sp [.ref a, y] H Q E0
structure MetI (P : Program) (w : World) (K : PySem.W.Frag) (mg : Str → Option Value) (base : Heap) (k : Nat) (C : Addr) (m : Str) (sp : Sp) : Prop where
  ex : ∃ (f : Addr) (fd : FuncData) (ps : List Str), Cls K C ∧ Meth K C m f ∧ PySem.W.fnIn K f = true ∧ FnOk P w K mg base CX0 k f fd ps sp ∧ Binds K fd ps []
def PlainO (b : Expr) : Prop := ∀ o i, subscripted b true o i = runValue (.builtin "lifetime.subscript" ⟨[o, i], []⟩)
theorem pe_ixO {a b : Expr} {ta tb : TE} {pos : Pos} (c : MetI X.prog X.w X.K X.mg X.base k C "__getitem__" sp) (hr : Room j X.A) (hk : k + 1 ≤ j) (ha : PE X a ta) (hb : PE X b tb) (hs : PlainO b) : PE X (.Subscript a b pos) (tOp (rIxO C sp) ta tb) := by
  refine ⟨fun pins s σ H Q I h => ?_⟩
  refine Subscript_ (binT ha hb I h fun v u s2 x y H2 I2 rx ry q => ?_)
  obtain ⟨a', dx, fs, rfl, ha', q⟩ := q
  obtain rfl : v = Value.ref a' := rx
  obtain ⟨f, fd, ps, c1, c2, c3, F, bb⟩ := c.ex
  obtain ⟨mA, J, _⟩ := ins_get I2.hok ha'
  obtain ⟨od, J, _⟩ := J.look
  obtain ⟨m, hF⟩ := I2.fr
  exact PySem.W.sub_K hF I2.ok.mod.kin J c2.at_ c3 c2.fn (run_fnA (vs := [.ref a', y]) F (hr.mono hk).in1 rfl bb I2 (.cons rfl (.cons ry .nil)) q) (hs _ _)
/-! ### C(k = v, ..) -/
structure MakK (P : Program) (w : World) (K : PySem.W.Frag) (mg : Str → Option Value) (base : Heap) (k : Nat) (x : Str) (C : Addr) (ks : List Str) (sp : Sp) (gV : List V → List V → List V) : Prop where
  ex : ∃ (f : Addr) (fd : FuncData) (ps : List Str) (g : List Value → List Value → List Value), Mk K C f ∧ FnOk P w K mg base CX0 k f fd ps sp ∧ mg x = some (.ref C) ∧ KBn K fd ps 1 ks g gV
theorem pe_mkK {x : Str} {p pos : Pos} {kws : List Keyword} {tk : TA} {ks : List Str} {gV : List V → List V → List V} (c : MakK X.prog X.w X.K X.mg X.base k x C ks sp gV) (hr : Room j X.A) (hk : k + 1 ≤ j) (hg : Gl X x) (hkw : PK X kws tk)
    (hall : (backToKw pos (keywordEach kws X.env)).all (·.1.isSome) = true := by rfl) (hks : (backToKw pos (keywordEach kws X.env)).filterMap (·.1) = ks := by rfl) (hdb : (x == ("__debug__" : Str)) = false := by decide)
    (hpl : ((backTo pos (starEach [] X.env)).any (·.1) || (backToKw pos (keywordEach kws X.env)).any (·.1.isNone)) = false := by rfl) :
    PE X (.Call (.Name x p) [] kws pos) (tMakeK C 0 ks.length sp gV E0 tNil tk) := by
  obtain ⟨f, fd, ps, g, M, F, hm, hb⟩ := c.ex
  exact pe_makeK0 M F (hr.mono hk) hg hm hb pass0 hkw hall hks hdb hpl
/-! ### C.m(k = v), m a classmethod, one keyword -/
def tCMethK (C : Addr) (sp : Sp) (ta : TE) (tk : TA) : TE := fun σ H Q => ta σ H fun x H1 => x = .ref C ∧ tk σ H1 fun zs H2 => zs.length = 1 ∧ sp (.ref C :: zs) H2 Q E0
structure CmeK (P : Program) (w : World) (K : PySem.W.Frag) (mg : Str → Option Value) (base : Heap) (k : Nat) (C : Addr) (m : Str) (kx : Str) (sp : Sp) : Prop where
  ex : ∃ (mc : Value) (p g : Addr) (fd : FuncData) (ps : List Str), ClX.CRead K C mc ∧ ClX.CMet K C mc m p g ∧ FnOk P w K mg base CX0 k g fd ps sp ∧ ∀ (s : Shared) (u v : Value), K.In s.heap → BindsTo s fd ⟨[u], [(kx, v)]⟩ (ps.zip [u, v])
theorem pe_cmK {m kx : Str} {pos apos : Pos} {o : Expr} {kws : List Keyword} {tk : TA} {ta : TE} {pl : Sem Bool} (c : CmeK X.prog X.w X.K X.mg X.base k C m kx sp) (hr : Room j X.A) (hk : k ≤ j) (he : PE X o ta) (hkw : PK X kws tk)
    (hall : (backToKw pos (keywordEach kws X.env)).all (·.1.isSome) = true := by rfl) (hks : (backToKw pos (keywordEach kws X.env)).filterMap (·.1) = [kx] := by rfl)
    (hpl : ((backTo pos (starEach [] X.env)).any (·.1) || (backToKw pos (keywordEach kws X.env)).any (·.1.isNone)) = false := by rfl)
    (ht : eval (.Call (.Attribute o m apos) [] kws pos) X.env = (do
      let ov ← eval o X.env
      standAt apos.atName
      let (f, first) ← holding [ov] (getMethod ov m pl)
      callWith pos f first (backTo pos (starEach [] X.env)) (backToKw pos (keywordEach kws X.env))) := by rfl) :
    PE X (.Call (.Attribute o m apos) [] kws pos) (tCMethK C sp ta tk) := by
  obtain ⟨mc, p, g, fd, ps, c1, c2, F, hb⟩ := c.ex
  refine ⟨fun pins s σ H Q I h => ?_⟩
  refine PySem.W.methodCall_KW (pl := pl) (thn (he.run pins s σ H _ I h) fun u s1 ⟨x, H1, I1, rx, ex, q⟩ => ?_) ht
  subst ex
  obtain rfl : u = Value.ref C := rx
  refine ClX.getmethcm_ok I1 c1 c2 fun s2 I2 => ?_
  refine PySem.W.callWith_of (P := PySem.W.MethP X.K s1.heap.objs.size g (.ref C)) hpl (PySem.W.keeps_M c2.fi) (evalArgs_kw2_nil hall ?_)
  refine thn (hkw.run pos _ s2 σ H1 _ I2 q) fun ws s3 ⟨zs, H2, I3, rz, l2, q2⟩ => ⟨⟨ClX.pin_at I3, I3.kIn⟩, ?_⟩
  rw [hks]
  obtain ⟨z, rfl⟩ : ∃ z, zs = [z] := by
    cases zs with
    | nil => cases l2
    | cons z r =>
      cases r with
      | nil => exact ⟨z, rfl⟩
      | cons _ _ => cases l2
  obtain ⟨w, rfl, rw'⟩ := vals1 rz
  have fin : wpAny (model X.prog X.w) X.A (call (.ref s1.heap.objs.size) [] [(kx, w)]) (EP X ((s1.heap.objs.size, PySem.W.methodObj (.ref g) (.ref C)) :: pins) σ Q) X.xe s3 := by
    refine wpAny_call (PySem.W.method_call (ClX.pin_at I3) ?_)
    refine codeAny_mono (F.run X.A X.stack s3 H2 ⟨[.ref C], [(kx, w)]⟩ [.ref C, w] [.ref C, z] Q E0 (hr.mono hk) I3.env0 (hb s3 _ _ I3.kIn) (.cons rfl (.cons rw' .nil)) q2) fun r s' hq => ?_
    cases r with
    | error e => exact pass0 _ σ H2 s3 e s' I3 hq
    | ok fl =>
      cases fl with
      | ret u => exact I3.after hq
      | next => exact False.elim hq
      | brk => exact False.elim hq
      | cont => exact False.elim hq
  exact thn fin fun _ _ y => ClX.unpinE y
end
/-! ### the same, told by data -/
variable {K : KX} {S : List Addr} {G : List Sl}
section
variable {al : Type} {rep : al → List Dt} {ok : al → Prop} {post : al → Dt → Prop} {C : Addr}
theorem eg_lenO {ta : TE} {ds : List (Str × Dt)} {n : Nat} (a : al) (hs : Eg K S G ta (· = .obj C ds)) (e : [.obj C ds] = rep a) (oka : ok a) (hn : n ≤ 1000000) (hz : ∀ d, post a d → d = .int (n : Int)) : Eg K S G (tCB (rLenO C (spX K rep ok post)) (tCons ta tNil)) (· = .int (n : Int)) := fun B O σ H hh Q k =>
  hs B O σ H hh _ fun v H1 d' hd h1 g1 d1 => by
    subst hd
    obtain ⟨b, dx, fs, rfl, e1, e2⟩ := id d1
    refine ⟨b, dx, fs, rfl, hid_ex _ _ _ e1, a, oka, _, _, h1.trk, h1.nd, h1.tb, DnA.one d1, e, fun v d H' hp ex tb dn => ?_⟩
    have hd := hz d hp
    subst hd
    exact ⟨(n : Int), dn, by omega, k _ H' _ rfl (h1.moreN ex tb) (g1.trans (hid_monoN fun a o _ z n => ex a o z n)) rfl⟩
theorem eg_strO {ta : TE} {ds : List (Str × Dt)} {x : Str} (a : al) (hs : Eg K S G ta (· = .obj C ds)) (e : [.obj C ds] = rep a) (oka : ok a) (hz : ∀ d, post a d → d = .str x) : Eg K S G (tCB (rStrO C (spX K rep ok post)) (tCons ta tNil)) (· = .str x) := fun B O σ H hh Q k =>
  hs B O σ H hh _ fun v H1 d' hd h1 g1 d1 => by
    subst hd
    obtain ⟨b, dx, fs, rfl, e1, e2⟩ := id d1
    refine ⟨b, dx, fs, rfl, hid_ex _ _ _ e1, a, oka, _, _, h1.trk, h1.nd, h1.tb, DnA.one d1, e, fun v d H' hp ex tb dn => ?_⟩
    have hd := hz d hp
    subst hd
    exact ⟨x, dn, k _ H' _ rfl (h1.moreN ex tb) (g1.trans (hid_monoN fun a o _ z n => ex a o z n)) rfl⟩
theorem eg_ixO {ta tb : TE} {ds : List (Str × Dt)} {y : Dt} {pz : Dt → Prop} (a : al) (hs : Eg K S G ta (· = .obj C ds)) (hb : Eg K S G tb (· = y)) (e : [.obj C ds, y] = rep a) (oka : ok a) (hz : ∀ d, post a d → pz d) : Eg K S G (tOp (rIxO C (spX K rep ok post)) ta tb) pz := fun B O σ H hh Q k =>
  hs B O σ H hh _ fun v H1 d' hd h1 g1 d1 => hb B O σ H1 h1 _ fun w H2 e' he h2 g2 d2 => by
    subst hd he
    have d1' := Dn.mono g2 _ d1
    obtain ⟨b, dx, fs, rfl, e1, e2⟩ := id d1'
    have d12 : DnA K (hid H2 (pof O G)) [.obj C ds, e'] [.ref b, w] := ⟨_, _, rfl, d1', DnA.one d2⟩
    exact ⟨b, dx, fs, rfl, hid_ex _ _ _ e1, a, oka, _, _, h2.trk, h2.nd, h2.tb, d12, e, fun v d H' hp ex tb dn => k v H' d (hz d hp) (h2.moreN ex tb) ((g1.trans g2).trans (hid_monoN fun a o _ z n => ex a o z n)) dn⟩
theorem eg_cmK {tk : TA} {px : List Dt → Prop} {pz : Dt → Prop} (h : Ea K S G tk px) (hl : ∀ ds, px ds → ds.length = 1) (ha : ∀ ds, px ds → ∃ a, ds = rep a ∧ ok a ∧ ∀ d, post a d → pz d) : Eg K S G (tCMethK C (spC K C rep ok post) (tC (.ref C)) tk) pz := fun B O σ H hh Q k =>
  ⟨rfl, h B O σ H hh _ fun vs H1 ds hx h1 g1 d1 => by
    obtain ⟨a, e, oka, hz⟩ := ha ds hx
    have hl' := hl ds hx
    subst e
    exact ⟨by rw [DnA.len d1]; exact hl', vs, rfl, a, oka, _, _, h1.trk, h1.nd, h1.tb, d1, rfl, fun v d H' hp e tb dn => k v H' d (hz d hp) (h1.moreN e tb) (g1.trans (hid_monoN fun a o _ z n => e a o z n)) dn⟩⟩
end
/-- C(k = v, ..): three keywords in any order -/
def rot3 {α : Type} : List α → List α → List α
  | [s], [r, a, l] => [s, a, l, r]
  | _, _ => []
theorem rot3_rel {vs zs : List V} {us ws : List Value} (r1 : Vals vs us) (r2 : Vals zs ws) : Vals (rot3 vs zs) (rot3 us ws) := by
  cases r1 with
  | nil => exact .nil
  | cons a r1 =>
    cases r1 with
    | cons _ _ => exact .nil
    | nil =>
      cases r2 with
      | nil => exact .nil
      | cons b r2 =>
        cases r2 with
        | nil => exact .nil
        | cons c r2 =>
          cases r2 with
          | nil => exact .nil
          | cons d r2 =>
            cases r2 with
            | nil => exact .cons a (.cons c (.cons d (.cons b .nil)))
            | cons _ _ => exact .nil
section
variable {al : Type} {rep : al → List Dt} {ok : al → Prop} {out : al → List (Str × Dt)} {C : Addr}
theorem eg_mkK3 {tk : TA} {r a l : Dt} {pz : Dt → Prop} (h : Ea K S G tk (· = [r, a, l])) (ha : ∃ x, [a, l, r] = rep x ∧ ok x ∧ pz (.obj C (out x))) : Eg K S G (tMakeK C 0 3 (spI K C rep ok out) rot3 E0 tNil tk) pz := fun B O σ H hh Q k =>
  h B O σ H hh _ fun vs H1 ds hx h1 g1 d1 => by
    subst hx
    obtain ⟨v1, r1, rfl, e1, v2, r2, rfl, e2, v3, r3, rfl, e3, e4⟩ := d1
    cases (show r3 = [] from e4)
    obtain ⟨x, ex, okx, hz⟩ := ha
    refine ⟨rfl, rfl, ?_⟩
    intro o dx nx ndx ne
    have fx : o ∉ pof O G := h1.fresh nx
    have fdx : dx ∉ pof O G := h1.fresh ndx
    have e1' : Ex H1 (upd (upd H1 dx (.own o)) o (.ins C dx [])) := fun b u e => by
      rw [upd_ne (ne_of_none e nx), upd_ne (ne_of_none e ndx)]
      exact e
    have d1 : DnA K (hid H1 (pof O G)) (rep x) [v2, v3, v1] := by
      rw [← ex]
      exact ⟨_, _, rfl, e2, _, _, rfl, e3, _, _, rfl, e1, rfl⟩
    show spI K C rep ok out [.ref o, v2, v3, v1] _ _ _
    refine ⟨x, okx, pof O G, o, dx, [v2, v3, v1], rfl, upd_same, fx, h1.trk.ex e1', h1.nd, h1.tb.ext e1', DnA.mono (fun b u e nt => ?_) _ d1, fun H' kp tb dn => ⟨rfl, ?_⟩⟩
    · obtain ⟨n, e⟩ := hid_some e
      have nb : b ≠ o := ne_of_none e nx
      rw [hid_out (fun z => (List.mem_cons.mp z).elim nb n)]
      exact e1' b u e
    · have e2' : ExN H1 H' := fun b u e nt => kp b u (ne_of_none e nx) (e1' b u e) nt
      exact k _ _ _ hz (h1.moreN e2' tb) (g1.trans (hid_monoN fun b u _ e nt => e2' b u e nt)) dn
end
end Sb

set_option Elab.async false
set_option linter.all false
set_option maxRecDepth 100000
set_option autoImplicit false
namespace Sb
open PySem PySem.Spec PyProof.Rows L2 TL
/-! ### bool(o), o with a __len__ -/
section
variable {prog : Program} {w : World} {A : Around} {E : Value → Shared → Prop} {s : Shared} {K : PySem.W.Frag} {x C L f : Addr} {h₀ : Heap} {m : Str → Option Value} {ox : Obj} {od : Option Obj}
def LenB (Q : Bool → Shared → Prop) (v : Value) (s' : Shared) : Prop := match v with
  | .int n _ => (0 ≤ n ∧ n < 2 ^ 63) ∧ Q (n != 0) { s' with toks := s'.toks + 1 }
  | _ => False
theorem truthy_len {Q : Bool → Shared → Prop} (X : K.In s.heap) (I : PySem.W.InstAt s.heap x ox C od) (hs : PySem.W.findIn K (.ref C) "__bool__" = some none) (hl : PySem.W.findIn K (.ref C) "__len__" = some (some (.ref f))) (hf : PySem.W.isFn K (.ref f) = true)
    (h : wpAny (model prog w) A.in1 (call (.ref f) [.ref x]) (LenB Q) E s) : wpAny (model prog w) A (truthy (.ref x)) Q E s := by
  have key : wpAny (model prog w) A (runValue (.builtin "len" ⟨[.ref x], []⟩)) (fun r s' => ∃ n t, r = .int n t ∧ Q (n != 0) s') E s := by
    refine wpAny_runValue (codeAny_builtin entry_len ?_)
    rw [Around.under_plainId plain_len _]
    unfold Builtin.«len»
    refine wpAny_bind (m := oneArg "len" _) (wpAny_pure ?_)
    refine wpAny_bind (m := callSpecial? (.ref x) (Str.ofString "__len__")) (PySem.W.special_fn X I hl (beq_iff_eq.mp hf) (wpAny_mono h (fun r s' hr => ?_) fun _ _ y => y))
    cases r <;> first | exact hr.elim | skip
    rename_i n u
    obtain ⟨⟨h0, h1⟩, hq⟩ := hr
    refine wpAny_bind (wpAny_holding (wpAny_pure ?_))
    refine wpAny_bind (wpAny_letGo ?_)
    show wpAny _ _ (if n < 0 then _ else _) _ _ _
    rw [if_neg (by omega)]
    show wpAny _ _ (if n ≥ 2 ^ 63 then _ else _) _ _ _
    rw [if_neg (by omega)]
    exact wpAny_bind (wpAny_mkInt (wpAny_pure ⟨_, _, rfl, hq⟩))
  unfold truthy
  refine wpAny_bind (m := callSpecial? (.ref x) (Str.ofString "__bool__")) (wpAny_bind (wpAny_bind (I.type.here ((PySem.W.looks_findIn X hs).here (wpAny_pure ?_)))))
  refine wpAny_bind (wpAny_bind (I.type.here ((PySem.W.looks_findIn X hl).here ?_)))
  show wpAny _ _ (if (some (Value.ref f)).isNone = true then _ else _) _ _ _
  rw [if_neg (by simp)]
  refine wpAny_bind (wpAny_mono key (fun r s' hr => ?_) fun _ _ y => y)
  obtain ⟨n, t, rfl, hq⟩ := hr
  exact wpAny_pure hq
theorem bool_own {Q : Value → Shared → Prop} (X : K.In s.heap) (I : PySem.W.InstAt s.heap x ox C od) (hs : PySem.W.findIn K (.ref C) "__bool__" = some none) (hl : PySem.W.findIn K (.ref C) "__len__" = some (some (.ref f))) (hf : PySem.W.isFn K (.ref f) = true)
    (h : wpAny (model prog w) A.in1.in1.in1 (call (.ref f) [.ref x]) (LenB fun b s' => Q (.bool b) s') E s) : wpAny (model prog w) A (call (.type "bool") [.ref x]) Q E s := by
  refine callType_codes (T := "bool") (Bi := Builtin.«object.__init__») (Q₁ := fun r s₁ => ∃ b, r = .bool b ∧ Q r s₁) PySem.F.called_bool (PySem.F.typeCall_bool_1 _) PySem.F.entry_object_init ?_ ?_
  · refine codeAny_of_tree ?_
    show wpAny _ A.in1.in1 (do checkBuiltinCall "bool.__new__" ⟨[.type "bool", .ref x], []⟩; again (.builtin "bool.__new__" ⟨[.type "bool", .ref x], []⟩)) _ _ s
    refine wpAny_bind (wpAny_of_eq (PySem.F.newCall_bool_1 _) (wpAny_pure ⟨plainId_quiet (by decide +kernel) _, codeAny_builtin PySem.F.entry_bool_new ?_⟩))
    rw [Around.under_plainId (by decide +kernel) _]
    have f1 := F.conv_sub_bool
    have ht : wpAny (model prog w) A.in1.in1 (truthy (.ref x)) (fun b s' => Q (.bool b) s') E s := truthy_len X I hs hl hf h
    unfold Builtin.«bool.__new__»
    obtain ⟨hp, g, d, tk, os⟩ := s
    repeat (any_goals (first | assumption | (with_reducible refine wpAny_bind (wpAny_mono ht (fun b s' hb => ?_) fun _ _ y => y)) | wp_step))
    all_goals first | exact ⟨_, rfl, _, rfl, ‹_›⟩ | exact ⟨_, rfl, ‹_›⟩ | skip
  · rintro obj s₁ ⟨b, rfl, hq⟩
    exact ⟨rfl, PySem.F.args_object_init_2 _ _, object_init_meets PySem.F.called_bool.init.lookup PySem.F.called_bool.made (by decide) prog w A.in1 _ s₁ ⟨rfl, rfl, hq⟩⟩
end
section
variable {X : Cx} {k j : Nat} {C : Addr} {sp : Sp}
def rBoolO (C : Addr) (sp : Sp) : List V → Hp → VK → Prop := fun xs H Q => ∃ a dx fs, xs = [.ref a] ∧ H a = some (.ins C dx fs) ∧ sp [.ref a] H (fun v H2 => ∃ n : Int, v = .int n ∧ (0 ≤ n ∧ n < 2 ^ 63) ∧ Q (.bl (n != 0)) H2) E0
theorem cr_boolO (c : Met X.prog X.w X.K X.mg X.base k C "__len__" sp) (hs : PySem.W.findIn X.K (.ref C) "__bool__" = some none) (hr : Room j X.A) (hk : k + 3 ≤ j) : CallR X (.type "bool") (rBoolO C sp) := by
  intro pins s σ H xs us Q I r h
  obtain ⟨a, dx, fs, rfl, ha, q⟩ := h
  obtain ⟨u, rfl, r1⟩ := vals1 r
  obtain rfl : u = Value.ref a := r1
  obtain ⟨f, fd, ps, c1, c2, F, b⟩ := c.ex
  obtain ⟨mA, J, _⟩ := ins_get I.hok ha
  obtain ⟨od, J, _⟩ := J.look
  have hr2 : Room k X.A.in1.in1.in1 := (hr.mono hk).in1.in1.in1
  refine bool_own I.kIn J hs c2.at_ c2.fn (wpAny_mono (run_fnA (vs := [.ref a]) F hr2 rfl b I (.cons rfl .nil) q) (fun r s' hr => ?_) fun _ _ y => y)
  obtain ⟨v, H', I', rv, n, rfl, hn, q⟩ := hr
  obtain ⟨t, rfl⟩ := rv
  exact ⟨hn, .bl (n != 0), H', I'.tok _, rfl, q⟩
end
section
variable {K : KX} {S : List Addr} {G : List Sl} {al : Type} {rep : al → List Dt} {ok : al → Prop} {post : al → Dt → Prop} {C : Addr}
theorem eg_boolO {ta : TE} {ds : List (Str × Dt)} {n : Nat} (a : al) (hs : Eg K S G ta (· = .obj C ds)) (e : [.obj C ds] = rep a) (oka : ok a) (h1 : 1 ≤ n) (hn : n ≤ 1000000) (hz : ∀ d, post a d → d = .int (n : Int)) : Eg K S G (tCB (rBoolO C (spX K rep ok post)) (tCons ta tNil)) (· = .bl true) := fun B O σ H hh Q k =>
  hs B O σ H hh _ fun v H1 d' hd hh1 g1 d1 => by
    subst hd
    obtain ⟨b, dx, fs, rfl, e1, e2⟩ := id d1
    refine ⟨b, dx, fs, rfl, hid_ex _ _ _ e1, a, oka, _, _, hh1.trk, hh1.nd, hh1.tb, DnA.one d1, e, fun v d H' hp ex tb dn => ?_⟩
    have hd := hz d hp
    subst hd
    have hb : (((n : Int)) != 0) = true := bne_iff_ne.mpr (by omega)
    refine ⟨(n : Int), dn, by omega, ?_⟩
    rw [hb]
    exact k _ H' _ rfl (hh1.moreN ex tb) (g1.trans (hid_monoN fun a o _ z n => ex a o z n)) rfl
end
end Sb

set_option Elab.async false
set_option linter.all false
set_option maxRecDepth 100000
set_option autoImplicit false
namespace Sb
open PySem PySem.Spec PyProof.Rows L2 TL
/-! ### how long what is shown may be -/
theorem piled_cons (t : Str) (r : List Str) : piled (t :: r) = t.length + 2 + piled r := by
  unfold piled
  rw [List.map_cons, List.sum_cons]
theorem textFrom_le : ∀ (ts : List Str) (k : Nat) (acc : Str), (textFrom k acc ts).length ≤ acc.length + piled ts
  | [], k, acc => by show acc.length ≤ _; omega
  | t :: r, k, acc => by
    have ih := textFrom_le r (k + 1) (acc ++ (if k > 0 then ", " else "" : String) ++ t)
    have e : (acc ++ (if k > 0 then ", " else "" : String) ++ t).length ≤ acc.length + 2 + t.length := by
      rw [Str.length_append, Str.length_append]
      have : (Str.ofString (if k > 0 then ", " else "" : String)).length ≤ 2 := by
        split <;> decide
      omega
    show (textFrom (k + 1) _ r).length ≤ acc.length + piled (t :: r)
    rw [piled_cons]
    omega
theorem listText_le (ts : List Str) : (listText ts).length ≤ piled ts + 2 := by
  unfold listText
  rw [Str.length_append]
  have h := textFrom_le ts 0 (Str.ofString "[")
  have e1 : (Str.ofString "[").length = 1 := by decide
  have e2 : (Str.ofString "]").length = 1 := by decide
  omega
theorem joinL_piled {s : List Nat} (hs : s.length ≤ 2) : ∀ (ts : List Str), (joinL s (ts.map tl)).length ≤ piled ts
  | [] => Nat.zero_le _
  | [t] => by
    rw [piled_cons]
    show (tl t).length ≤ _
    have : (tl t).length = t.length := (len_tl t)
    omega
  | t :: u :: ts => by
    have ih := joinL_piled hs (u :: ts)
    have e : (joinL s ((t :: u :: ts).map tl)).length = (tl t).length + (s.length + (joinL s ((u :: ts).map tl)).length) := by
      rw [List.map_cons, List.map_cons]
      first
        | (show (tl t ++ (s ++ joinL s (tl u :: ts.map tl))).length = _; rw [List.length_append, List.length_append])
        | (simp only [joinL, List.append_assoc, List.length_append])
    rw [e, piled_cons]
    have : (tl t).length = t.length := (len_tl t)
    omega
theorem tupleText_le (ts : List Str) : (tupleText ts).length ≤ piled ts + 3 := by
  unfold tupleText
  rw [Str.length_append, Str.length_append]
  have e1 : (Str.ofString "(").length = 1 := by decide
  have e2 : (Str.ofString (if (ts.length == 1) = true then ",)" else ")" : String)).length ≤ 2 := by split <;> decide
  have e3 : (Str.join (Str.ofString ", ") ts).length ≤ piled ts := by
    have e := tl_join (Str.ofString ", ") ts
    have hl : (tl (Str.ofString ", ")).length ≤ 2 := by decide +kernel
    rw [len_tl, e]
    exact joinL_piled hl ts
  omega
mutual
def Dt.wid : Dt → Nat
  | .str x => 10 * x.length + 2
  | .int i => (Str.ofString (toString i)).length
  | .lst ds => widA ds + 2
  | .tup ds => widA ds + 3
  | _ => 5
def widA : List Dt → Nat
  | [] => 0
  | d :: ds => d.wid + 2 + widA ds
end
mutual
def Dt.okS : Nat → Dt → Prop
  | _, .non => True
  | _, .bl _ => True
  | _, .int i => i.natAbs.log2 < 1920
  | _, .str x => ∀ c ∈ x.cps.toList, c < 16 ^ 8
  | n, .lst ds => 1 ≤ n ∧ okSA (n - 1) ds
  | n, .tup ds => 1 ≤ n ∧ okSA (n - 1) ds
  | _, .dic _ => False
  | _, .dii _ => False
  | _, .obj _ _ => False
def okSA : Nat → List Dt → Prop
  | _, [] => True
  | n, d :: ds => d.okS n ∧ okSA n ds
end
theorem okSA_all {n : Nat} : ∀ {ds : List Dt}, (∀ d ∈ ds, d.okS n) → okSA n ds
  | [], _ => trivial
  | d :: ds, h => ⟨h d (by simp), okSA_all fun e he => h e (by simp [he])⟩
theorem widA_all {b : Nat} : ∀ {ds : List Dt}, (∀ d ∈ ds, d.wid ≤ b) → widA ds ≤ ds.length * (b + 2)
  | [], _ => Nat.zero_le _
  | d :: ds, h => by
    have h1 := h d (by simp)
    have h2 := widA_all (ds := ds) fun e he => h e (by simp [he])
    show d.wid + 2 + widA ds ≤ _
    rw [List.length_cons, Nat.succ_mul]
    omega
structure Shows (n : Nat) (d : Dt) : Prop where
  pl : d.plain = true
  sh : d.py.showable = true
  nd : d.py.hasDict = false
  dp : d.py.depth ≤ n
  ln : d.py.shown.length ≤ d.wid
mutual
theorem shows : ∀ (n : Nat) (d : Dt), d.okS n → Shows n d
  | n, .non, _ => ⟨rfl, rfl, rfl, Nat.zero_le _, by show (Str.ofString "None").length ≤ 5; decide⟩
  | n, .bl b, _ => ⟨rfl, rfl, rfl, Nat.zero_le _, by
      cases b
      · show (Str.ofString "False").length ≤ 5
        decide
      · show (Str.ofString "True").length ≤ 5
        decide⟩
  | n, .int i, h => ⟨rfl, decide_eq_true h, rfl, Nat.zero_le _, Nat.le_refl _⟩
  | n, .str x, h => ⟨rfl, rfl, rfl, Nat.zero_le _, PySem.StrLaws.reprText_len x h⟩
  | n, .lst ds, h => by
    obtain ⟨p1, p2, p3, p4, p5⟩ := showsA (n - 1) ds h.2
    have h1 := h.1
    refine ⟨p1, p2, p3, ?_, ?_⟩
    · show PyData.depthAll (pyA ds) + 1 ≤ n
      omega
    · show (listText (PyData.shownAll (pyA ds))).length ≤ widA ds + 2
      have := listText_le (PyData.shownAll (pyA ds))
      omega
  | n, .tup ds, h => by
    obtain ⟨p1, p2, p3, p4, p5⟩ := showsA (n - 1) ds h.2
    have h1 := h.1
    refine ⟨p1, p2, p3, ?_, ?_⟩
    · show PyData.depthAll (pyA ds) + 1 ≤ n
      omega
    · show (tupleText (PyData.shownAll (pyA ds))).length ≤ widA ds + 3
      have := tupleText_le (PyData.shownAll (pyA ds))
      omega
  | _, .dic _, h => h.elim
  | _, .dii _, h => h.elim
  | _, .obj _ _, h => h.elim
theorem showsA : ∀ (n : Nat) (ds : List Dt), okSA n ds → plainA ds = true ∧ PyData.showableAll (pyA ds) = true ∧ PyData.hasDictAll (pyA ds) = false ∧ PyData.depthAll (pyA ds) ≤ n ∧ piled (PyData.shownAll (pyA ds)) ≤ widA ds
  | n, [], _ => ⟨rfl, rfl, rfl, Nat.zero_le _, Nat.zero_le _⟩
  | n, d :: ds, h => by
    obtain ⟨q1, q2, q3, q4, q5⟩ := shows n d h.1
    obtain ⟨p1, p2, p3, p4, p5⟩ := showsA n ds h.2
    refine ⟨?_, ?_, ?_, ?_, ?_⟩
    · show (d.plain && plainA ds) = true
      rw [q1, p1]; rfl
    · show (d.py.showable && PyData.showableAll (pyA ds)) = true
      rw [q2, p2]; rfl
    · show (d.py.hasDict || PyData.hasDictAll (pyA ds)) = false
      rw [q3, p3]; rfl
    · show max d.py.depth (PyData.depthAll (pyA ds)) ≤ n
      omega
    · show piled (d.py.shown :: PyData.shownAll (pyA ds)) ≤ d.wid + 2 + widA ds
      rw [piled_cons]
      omega
end
theorem rc_reprS {K : KX} {d : Dt} (h : d.okS 50) (hw : d.wid ≤ 100000) : Rcv K (rRepr K) [d] (· = .str d.py.shown) := by
  obtain ⟨p1, p2, p3, p4, p5⟩ := shows 50 d h
  exact rc_repr p1 p2 p3 p4 (Nat.le_trans p5 hw) rfl
theorem ed_reprS {K : KX} {S : List Addr} {G : List Sl} {te : TE} {d : Dt} (h : Eg K S G te (· = d)) (hs : d.okS 50) (hw : d.wid ≤ 100000) : Eg K S G (tCB (rRepr K) (tCons te tNil)) (· = .str d.py.shown) := ed_cb (ea_1 h) (rc_reprS hs hw)
end Sb

set_option Elab.async false
set_option linter.all false
set_option maxRecDepth 100000
set_option autoImplicit false
namespace Sb
open PySem PySem.Spec PyProof.Rows L2 TL
variable {K : KX} {S : List Addr} {G : List Sl}
/-! ### t + u, either may be empty -/
def rAddB (K : PySem.W.Frag) : R2 := fun x y H Q => rAddA K x y H Q ∨ rCatA K x y H Q
theorem op_addB {X : Cx} {K : PySem.W.Frag} (h : X.K = K := by rfl) : OpR X (binaryOp .Add) (rAddB K) := h ▸ OpR.or op_addA op_catA
theorem r2_addTT {i j : List Dt} (hl : i.length + j.length ≤ 100000) : R2v K (rAddB K) (.tup i) (.tup j) (· = .tup (i ++ j)) := fun P H v w Q t d1 d2 k => .inr (by
  obtain ⟨a, xs, rfl, h1, h2⟩ := d1
  obtain ⟨b, ys, rfl, h3, h4⟩ := d2
  have l1 := DnA.len h2
  have l2 := DnA.len h4
  refine ⟨a, b, xs, ys, rfl, rfl, (hid_ex P).sqT h1, (hid_ex P).sqT h3, ?_, ?_, ?_, ?_⟩
  · rw [l1, l2]
    exact Nat.le_trans hl (by decide)
  · intro e
    have ei : i = [] := List.length_eq_zero_iff.mp (by rw [← l1, e]; rfl)
    refine k _ H _ rfl (Ex.refl H) ?_
    rw [ei]
    exact ⟨b, ys, rfl, h3, h4⟩
  · intro _ e
    have ei : j = [] := List.length_eq_zero_iff.mp (by rw [← l2, e]; rfl)
    refine k _ H _ rfl (Ex.refl H) ?_
    rw [ei, List.append_nil]
    exact ⟨a, xs, rfl, h1, h2⟩
  · intro _ _ p hp
    exact k _ _ _ rfl (new_ex hp) (new_tup t hp (DnA.app h2 h4)))
theorem ed_addTT {ta tb : TE} {i j : List Dt} (ha : Eg K S G ta (· = .tup i)) (hb : Eg K S G tb (· = .tup j)) (hl : i.length + j.length ≤ 100000) : Eg K S G (tOp (rAddB K) ta tb) (· = .tup (i ++ j)) := ed_op ha hb (r2_addTT hl)
/-! ### != of data -/
theorem ed_neD {ta tb : TE} {x y : Dt} (ha : Eg K S G ta (· = x)) (hb : Eg K S G tb (· = y)) (px : x.plain = true) (py : y.plain = true) (sx : SeqAt.shaped x.py = true) (sy : SeqAt.shaped y.py = true) : Eg K S G (tOp (rNeA K) ta tb) (· = .bl (!PyData.eqv x.py y.py)) :=
  ed_op ha hb fun P H v w Q t d1 d2 k => .inr ⟨x.py, y.py, dp_of x px (Dn.mono (hid_ex P).n x d1), dp_of y py (Dn.mono (hid_ex P).n y d2), sx, sy, rv_out k rfl rfl⟩
/-! ### o == u, both of the class -/
section
variable {X : Cx} {k j : Nat} {C : Addr} {sp : Sp}
def rEqO (C : Addr) (sp : Sp) : R2 := fun x y H Q => ∃ a b dx fs dy gs, x = .ref a ∧ y = .ref b ∧ H a = some (.ins C dx fs) ∧ H b = some (.ins C dy gs) ∧ sp [.ref a, .ref b] H (fun v H2 => ∃ r : Bool, v = .bl r ∧ Q (.bl r) H2) E0
theorem op_eqO (c : Met X.prog X.w X.K X.mg X.base k C "__eq__" sp) (hr : Room j X.A) (hk : k ≤ j) : OpR X (compareOp .Eq) (rEqO C sp) := by
  intro pins s σ H x y v u Q I rx ry h
  obtain ⟨a, b, dx, fs, dy, gs, rfl, rfl, ha, hb, q⟩ := h
  obtain rfl : v = Value.ref a := rx
  obtain rfl : u = Value.ref b := ry
  obtain ⟨f, fd, ps, c1, c2, F, bb⟩ := c.ex
  obtain ⟨mA, J, _⟩ := ins_get I.hok ha
  obtain ⟨mB, J', _⟩ := ins_get I.hok hb
  obtain ⟨od, J, _⟩ := J.look
  obtain ⟨od', J', _⟩ := J'.look
  obtain ⟨m, hF⟩ := I.fr
  have hr2 : Room k X.A := hr.mono hk
  show wpAny (model X.prog X.w) X.A (richCompare .Eq (.ref a) (.ref b)) (EP X pins σ Q) X.xe s
  refine PySem.W.cmp_K (op := .Eq) (tb := .ref C) hr2.units0 hF I.ok.mod.kin J J'.type (by simp [PySem.W.notFirst]) c2.at_ c2.fn ?_
  refine wpAny_mono (run_fnA (vs := [.ref a, .ref b]) F hr2 rfl bb I (.cons rfl (.cons rfl .nil)) q) (fun r s' hr => ?_) fun _ _ y => y
  obtain ⟨v, H', I', rv, r, rfl, q⟩ := hr
  cases rv
  exact ⟨.bl _, H', I', rfl, q⟩
end
section
variable {al : Type} {rep : al → List Dt} {ok : al → Prop} {post : al → Dt → Prop} {C : Addr}
theorem eg_eqO {ta tb : TE} {ds es : List (Str × Dt)} {r : Bool} (a : al) (hs : Eg K S G ta (· = .obj C ds)) (hb : Eg K S G tb (· = .obj C es)) (e : [.obj C ds, .obj C es] = rep a) (oka : ok a) (hz : ∀ d, post a d → d = .bl r) : Eg K S G (tOp (rEqO C (spX K rep ok post)) ta tb) (· = .bl r) := fun B O σ H hh Q k =>
  hs B O σ H hh _ fun v H1 d' hd h1 g1 d1 => hb B O σ H1 h1 _ fun w H2 e' he h2 g2 d2 => by
    subst hd he
    have d1' := Dn.mono g2 _ d1
    obtain ⟨b, dx, fs, rfl, e1, e2⟩ := id d1'
    obtain ⟨b2, dy, gs, rfl, e3, e4⟩ := id d2
    have d12 : DnA K (hid H2 (pof O G)) [.obj C ds, .obj C es] [.ref b, .ref b2] := ⟨_, _, rfl, d1', DnA.one d2⟩
    refine ⟨b, b2, dx, fs, dy, gs, rfl, rfl, hid_ex _ _ _ e1, hid_ex _ _ _ e3, a, oka, _, _, h2.trk, h2.nd, h2.tb, d12, e, fun v d H' hp ex tb dn => ?_⟩
    have hd := hz d hp
    subst hd
    exact ⟨r, dn, k _ H' _ rfl (h2.moreN ex tb) ((g1.trans g2).trans (hid_monoN fun a o _ z n => ex a o z n)) rfl⟩
end
/-! ### isinstance(o, C) -/
structure IsiC (K : PySem.W.Frag) (C : Addr) : Prop where
  cl : Cls K C
  ha : PySem.W.findIn K (.ref C) "__class__" = some (some (.builtin "object.__class__"))
  hn : PySem.W.specialIn K (.builtin "object.__class__") "__get__" = some (some (.builtin "getset_descriptor.__get__"))
  htk : PySem.W.takesIn K (.builtin "object.__class__") = some true
  hm : PySem.W.mroIn K C (.type "object") = some true
  hk : PySem.W.kitOne K (.ref C) (.ref C) = some true
theorem eg_isiO {te : TE} {C : Addr} {ds : List (Str × Dt)} (c : IsiC K C) (h : Eg K S G te (· = .obj C ds)) : Eg K S G (tCB (rIsi K) (tCons te (tCons (tC (.ref C)) tNil))) (· = .bl true) := fun B O σ H hh Q k =>
  h B O σ H hh _ fun v H1 d hd h1 g1 d1 => by
    subst hd
    obtain ⟨a, dx, fs, rfl, e1, e2⟩ := id d1
    exact ⟨_, _, _, _, true, rfl, .own C, .base (.ins (hid_ex _ _ _ e1) c.cl c.ha c.hn c.htk c.hm), c.hk, k _ H1 _ rfl h1 g1 rfl⟩
end Sb

set_option Elab.async false
set_option linter.all false
set_option maxRecDepth 100000
set_option autoImplicit false
namespace Sb
open PySem PySem.Spec PyProof.Rows L2 TL
variable {K : KX} {S : List Addr} {G : List Sl}
/-! ### a, b, c = a list -/
theorem pg_lstK {X : Cx} {K : PySem.W.Frag} {es : List Expr} {k : Nat} {t : TGs} {n : Nat} {pos : Pos} (hc : X.calm = true) (h : PGs X es t) (hK : X.K = K := by rfl)
    (hn : (assignEach es X.env).length = n := by rfl) (hst : (assignEach es X.env).findIdx? (·.1) = none := by rfl) : PG X (.Tuple es k pos) (gLst K n t) := hK ▸ pg_lst hc h hn hst
theorem gl_two {i j : Nat} {s t : Sl} {d e : Dt} {W : List Nat} (hi : G[i]? = some s) (hs : s.ad = none) (hj : G[j]? = some t) (ht : t.ad = none) (hij : i ≠ j) (hW : i ∈ W) (hW2 : j ∈ W) :
    Gg K S G (gLst K 2 (gCons (gName i) (gCons (gName j) gNil))) (.lst [d, e]) W ((G.set i (.da d)).set j (.da e)) := fun B O σ H v hh hd Q k => by
  obtain ⟨a, xs, rfl, h1, v1, r1, rfl, d1, v2, r2, rfl, d2, e3⟩ := hd
  subst e3
  have h2 := hh.set hi hs d1
  have ep : pof O (G.set i (.da d)) = pof O G := pof_set hi hs
  have hj2 : (G.set i (.da d))[j]? = some t := by rw [List.getElem?_set_ne hij]; exact hj
  have h3 := h2.set (d := e) (v := v2) hj2 ht (by rw [ep]; exact d2)
  refine ⟨a, [v1, v2], rfl, SqL.of (hid_ex _ _ _ h1), rfl, v1, [v2], rfl, v2, [], rfl, rfl, ?_⟩
  exact k _ h3 ((pof_set hj2 ht).trans ep) ((wipe_set hW2).trans (wipe_set hW))
theorem gl_three {i j l : Nat} {s t u : Sl} {d e f : Dt} {W : List Nat} (hi : G[i]? = some s) (hs : s.ad = none) (hj : G[j]? = some t) (ht : t.ad = none) (hl : G[l]? = some u) (hu : u.ad = none) (hij : i ≠ j) (hil : i ≠ l) (hjl : j ≠ l) (hW : i ∈ W) (hW2 : j ∈ W) (hW3 : l ∈ W) :
    Gg K S G (gLst K 3 (gCons (gName i) (gCons (gName j) (gCons (gName l) gNil)))) (.lst [d, e, f]) W (((G.set i (.da d)).set j (.da e)).set l (.da f)) := fun B O σ H v hh hd Q k => by
  obtain ⟨a, xs, rfl, h1, v1, r1, rfl, d1, v2, r2, rfl, d2, v3, r3, rfl, d3, e3⟩ := hd
  subst e3
  have h2 := hh.set hi hs d1
  have ep : pof O (G.set i (.da d)) = pof O G := pof_set hi hs
  have hj2 : (G.set i (.da d))[j]? = some t := by rw [List.getElem?_set_ne hij]; exact hj
  have h3 := h2.set (d := e) (v := v2) hj2 ht (by rw [ep]; exact d2)
  have ep2 := (pof_set (O := O) (d := e) hj2 ht).trans ep
  have hl2 : ((G.set i (.da d)).set j (.da e))[l]? = some u := by rw [List.getElem?_set_ne hjl, List.getElem?_set_ne hil]; exact hl
  have h4 := h3.set (d := f) (v := v3) hl2 hu (by rw [ep2]; exact d3)
  refine ⟨a, [v1, v2, v3], rfl, SqL.of (hid_ex _ _ _ h1), rfl, v1, [v2, v3], rfl, v2, [v3], rfl, v3, [], rfl, rfl, ?_⟩
  exact k _ h4 ((pof_set hl2 hu).trans ep2) (((wipe_set hW3).trans (wipe_set hW2)).trans (wipe_set hW))
/-! ### a <= b < c -/
theorem et_chainL {ta tb tc : TE} {i j l : Int} (ha : Eg K S G ta (· = .int i)) (hb : Eg K S G tb (· = .int j)) (hc : Eg K S G tc (· = .int l)) :
    Et K S G (tTest (tChain (rI0 fun i j => .bl (decide (i ≤ j))) (rI0 fun i j => .bl (decide (i < j))) ta tb tc)) (· = (decide (i ≤ j) && decide (j < l))) := et_tst1 fun B O σ H hh Q k =>
  ha B O σ H hh _ fun v H1 d hd h1 g1 d1 => hb B O σ H1 h1 _ fun w H2 e he h2 g2 d2 => by
    subst hd he
    refine ⟨i, j, d1, d2, decide (i ≤ j), rfl, ?_⟩
    cases hq : decide (i ≤ j) with
    | false => exact iteF (k _ _ _ rfl h2 (g1.trans g2) (by show V.bl false = V.bl (_ && _); rw [hq]; rfl))
    | true =>
      refine iteT (hc B O σ H2 h2 _ fun u H3 f hf h3 g3 d3 => ?_)
      subst hf
      exact ⟨j, l, d2, d3, k _ _ _ rfl h3 ((g1.trans g2).trans g3) (by show V.bl _ = V.bl (_ && _); rw [hq]; rfl)⟩
theorem ed_addIB {ta tb : TE} {i j : Int} (ha : Eg K S G ta (· = .int i)) (hb : Eg K S G tb (· = .int j)) : Eg K S G (tOp (rAddB K) ta tb) (· = .int (i + j)) := ed_op ha hb fun P H v w Q t d1 d2 k => .inl (r2_addI (pz := (· = .int (i + j))) rfl P H v w Q t d1 d2 k)
end Sb

set_option Elab.async false
set_option linter.all false
set_option maxRecDepth 100000
set_option autoImplicit false
namespace PySem.W
open PySem PySem.Calls PyProof.Rows
/-! ### sorted(range, key=f), over the heap -/
theorem each_of_get {α β : Type} {R : α → β → Prop} : ∀ {as : List α} {bs : List β}, as.length = bs.length → (∀ (i : Nat) (a : α) (b : β), as[i]? = some a → bs[i]? = some b → R a b) → EachIs R as bs
  | [], [], _, _ => .nil
  | [], _ :: _, h, _ => by simp at h
  | _ :: _, [], h, _ => by simp at h
  | a :: as, b :: bs, h, g => .cons (g 0 a b rfl rfl) (each_of_get (by simpa using h) fun i x y hx hy => g (i + 1) x y hx hy)
section
variable {prog : Program} {w : World} {A : Around} {E : Value → Shared → Prop} {s : Shared}
theorem sorted_range_key {r : Addr} {f : Value} {n : Nat} {hi : Int} {t u v : Tok} {kw : List (Str × Value)} {Q : Value → Shared → Prop} (k : Int → PyData) (hh : A.handled = none) (hr : s.heap.get? r = some { cls := .type "range", data := .fields #[.int 0 t, .int hi u, .int 1 v] })
    (hsmall : Builtin.Range.small 0 hi 1 = true) (hn : Builtin.Range.rangeSize 0 hi 1 = n) (hlen : n ≤ 1000) (hal : AllAlike (((List.range n).map fun i : Nat => (i : Int)).map k)) (hk : Sortable (((List.range n).map fun i : Nat => (i : Int)).map k))
    (hu : ∀ x, A.units + 2 + (k x).depth < cLine) (ha1 : argsOk "sorted" ⟨[.ref r], kw⟩) (ha2 : ∀ x, argsOk "list.sort" ⟨[.ref x], kw⟩) (ht : ∀ x, Builtin.«list.sort» ⟨[.ref x], kw⟩ = ksk_tree x f false)
    (turn : ∀ (x : Int) (t : Tok), (∃ i : Nat, i < n ∧ x = (i : Int)) → ∀ (h : Heap) (tk : Nat), (∀ b o, s.heap.get? b = some o → h.get? b = some o) →
      wpAny (model prog w) A.in1.in1 (call f [.int x t]) (KeyPure (k x) { s with heap := h, toks := tk }) (fun _ _ => False) { s with heap := h, toks := tk })
    (h : ∀ out l c h' tk, (∀ b o, s.heap.get? b = some o → h'.get? b = some o) → s.heap.get? l = none → h'.get? l = some (seqObj "list" (List.toArray out) c) → EachIs (fun v x => ∃ t, v = .int x t) out (((List.range n).map fun i : Nat => (i : Int)).mergeSort (dataLe false k)) →
      Q (.ref l) { s with heap := h', toks := tk }) :
    wpAny (model prog w) A (call (.builtin "sorted") [.ref r] kw) Q E s := by
  refine call_function_entry_kw kind_sorted plain_sorted entry_sorted ha1 ?_
  unfold Builtin.«sorted»
  refine wpAny_bind (m := checkCount "sorted" 1 1 _) (wpAny_pure ?_)
  refine wpAny_bind (L2.collect_range (A := A.in1) hh hr hsmall hn (by omega) fun h1 tk acc kp1 hi1 => ?_)
  have hsz : acc.toList.length ≤ sizeLine := by
    rw [Array.length_toList, hi1.1, sizeLine_eq]
    omega
  have hnew : s.heap.get? h1.objs.size = none := by
    cases q : s.heap.get? h1.objs.size with
    | none => rfl
    | some o => exact absurd (Heap.lt_size (kp1 _ o q)) (Nat.lt_irrefl _)
  refine wpAny_bind (wpAny_newList ?_ hsz)
  have ho : (h1.push (seqObj "list" acc.toList.toArray 0)).get? h1.objs.size = some (seqObj "list" acc.toList.toArray 0) := Heap.get?_push_size _ rfl
  have each : EachIs (fun (v : Value) (x : Int) => (∃ t, v = .int x t)) acc.toList ((List.range n).map fun i : Nat => (i : Int)) := by
    refine each_of_get (by rw [Array.length_toList, hi1.1, List.length_map, List.length_range]) fun i a b ha hb => ?_
    rw [Array.getElem?_toList] at ha
    obtain ⟨t, e⟩ := hi1.2 i a ha
    rw [List.getElem?_map] at hb
    cases q : (List.range n)[i]? with
    | none => rw [q] at hb; cases hb
    | some j =>
      rw [q] at hb
      have hj : j = i := by
        have := List.getElem?_eq_some_iff.mp q
        obtain ⟨h1, h2⟩ := this
        rw [List.getElem_range] at h2
        exact h2.symm
      cases hb
      subst hj
      refine ⟨t, e.trans ?_⟩
      show Value.int (0 + (j : Int) * 1) t = Value.int (j : Int) t
      rw [show (0 + (j : Int) * 1) = (j : Int) by omega]
  have up : ∀ {g : Heap}, KeepsBut h1.objs.size (h1.push (seqObj "list" acc.toList.toArray 0)) g → ∀ b o, s.heap.get? b = some o → g.get? b = some o := fun {g} kp b o q =>
    kp b o (Nat.ne_of_lt (Heap.lt_size (kp1 b o q))) (Heap.get?_push_of_some _ (kp1 b o q))
  show wpAny _ _ _ _ _ { s with heap := h1.push (seqObj "list" acc.toList.toArray 0), toks := tk }
  refine wpAny_bind (wpAny_holding (wpAny_call_entry_kw slot_list_sort ⟨_, ho, rfl⟩ entry_list_sort ?body (ha2 _)))
  case body =>
    show wpAny (model prog w) A.in1.in1 (Builtin.«list.sort» ⟨[.ref h1.objs.size], kw⟩) _ _ _
    rw [ht]
    refine keyH_tree (b := false) (kz := ((List.range n).map fun i : Nat => (i : Int)).map k) (s := { s with heap := h1.push (seqObj "list" acc.toList.toArray 0), toks := tk }) ho (by rw [List.length_map, List.length_map, List.length_range, Array.length_toList, hi1.1]) hsz hal hk (fun d hd => ?_)
      (keyH_turns (s := { s with heap := h1.push (seqObj "list" acc.toList.toArray 0), toks := tk }) (R := fun (v : Value) (x : Int) => (∃ t, v = .int x t)) each fun v x hR hx h tk kp => ?_) fun h' tk' out c kp hD ko => ?_
    · obtain ⟨x, _, rfl⟩ := List.mem_map.mp hd
      exact hu x
    · obtain ⟨t, rfl⟩ := hR
      obtain ⟨i, hi, rfl⟩ := List.mem_map.mp hx
      exact turn _ t ⟨i, List.mem_range.mp hi, rfl⟩ h tk (up kp)
    · refine ⟨_, rfl, wpAny_pure ⟨_, rfl, ?_⟩⟩
      exact h out _ c h' tk' (up kp) hnew hD (keyedOut_each k ko each)
end
end PySem.W

set_option Elab.async false
set_option linter.all false
set_option maxRecDepth 100000
set_option autoImplicit false
namespace PySem.W
open PySem PySem.Calls PyProof.Rows
/-! ### the call of lambda x: (-y[x], x), over the heap -/
section
variable {prog : Program} {w : World} {A : Around} {s : Shared}
theorem key_call {f c' cb ta : Addr} {q x y : Str} {pm ctv : Value} {params : Arguments} {scope : Scope} {clos : List (Str × Addr)} {p1 p2 p3 p4 p5 p7 : Pos} {k6 : Nat} {its : List Value} {i : Nat} {b : Int} {tb t : Tok}
    (hroom : A.depth < recursionLimit)
    (hf : s.heap.get? f = some (kla_obj "<lambda>" q params (.Tuple [.UnaryOp .USub (.Subscript (.Name y p1) (.Name x p2) p3) p4, .Name x p5] k6 p7) scope clos pm c' ctv))
    (hcd : s.heap.CodeRec (.ref c') q) (hlim : s.heap.NoLimit)
    (hbind : bindArgs (kla_fn "<lambda>" q params (.Tuple [.UnaryOp .USub (.Subscript (.Name y p1) (.Name x p2) p3) p4, .Name x p5] k6 p7) scope clos pm (.ref c') ctv) ⟨[.int (i : Int) t], []⟩ = pure [(x, .int (i : Int) t)])
    (hk : scope.kind = .function) (hco : scope.isCoroutine = false) (hgen : scope.isGenerator = false) (hnc : ∀ z ∈ scope.names, z.2 ≠ .cell) (hx : scope.names.lookup x = some .local) (hy : scope.names.lookup y = some .free) (hcl : clos.lookup y = some cb)
    (hcell : s.heap.IsCell cb (some (.ref ta))) (htup : IsTup s.heap ta its.toArray) (hz : its.length ≤ 1000) (hi : its[i]? = some (.int b tb))
    (dx : (x == ("__debug__" : Str)) = false) (dy : (y == ("__debug__" : Str)) = false) (cy : (y == ("__classdict__" : Str)) = false) :
    wpAny (model prog w) A (call (.ref f) [.int (i : Int) t]) (KeyPure (.tuple [.int (-b), .int (i : Int)]) s) (fun _ _ => False) s := by
  refine wpAny_call ?_
  refine kla_callFunE hroom hf rfl hco hgen rfl hcd ?_
  rw [hbind]
  refine wpAny_pure (wpAny_newFunctionEnv hnc (fun z hz => ?_) (fun h₁ hns hsb => ⟨hlim.fresh _ hsb, ?_⟩) hk)
  · have hz : z = (x, Value.int (i : Int) t) := by simpa using hz
    rw [hz]
    exact hx
  show codeAny _ _ (.expr _ (envX q scope s.heap.objs.size f (.ref c') clos)) _ _
  have kp : ∀ b o, s.heap.get? b = some o → h₁.get? b = some o := fun b o e => hsb.extBut b o (Nat.ne_of_lt (Heap.lt_size e)) (Heap.get?_push_of_some _ e)
  refine kla_codeExpr ?_
  have ldx : ∀ {Q : Value → Shared → Prop} {E : Value → Shared → Prop} {tk : Nat} {p : Pos}, Q (.int (i : Int) t) { s with heap := h₁, toks := tk } → wpAny (model prog w) (A.deeper (envX q scope s.heap.objs.size f (.ref c') clos)) (eval (.Name x p) (envX q scope s.heap.objs.size f (.ref c') clos)) Q E { s with heap := h₁, toks := tk } := fun {Q E tk p} h =>
    wpAny_Name (wpAny_loadName_local hk hx hns (by simp) h) dx
  have hcell1 : h₁.IsCell cb (some (.ref ta)) := by
    obtain ⟨o, ho, hd⟩ := hcell
    exact ⟨o, kp _ _ ho, hd⟩
  have htup1 : IsTup h₁ ta its.toArray := by
    obtain ⟨o, e, c, n, d⟩ := htup
    exact ⟨o, kp _ _ e, c, n, d⟩
  have hlt : i < its.length := (List.getElem?_eq_some_iff.mp hi).1
  refine wpAny_Tuple_spliced (args_cons (UnaryOp_ (Subscript_ (wpAny_Name (wpAny_loadName_free hk hy hcl hcell1 (ldx ?_) cy) dy))) rfl)
  refine subscriptTail_builtinR (x := .int b tb) htup1.typeIs slot_tuple_getitem.lookup (getItem_tuple (j := i) htup1 (by omega) (by omega) (by rw [seqIndex_of (by omega) (by rw [List.size_toArray]; omega)]; rfl) (by simpa using hi) ⟨rfl, ?_⟩)
  refine neg_int ?_
  refine args_cons (ldx (args_nil ?_)) rfl
  refine ⟨by show 2 ≤ sizeLine; decide, ?_⟩
  refine ⟨_, _, rfl, fun b o e => Heap.get?_push_of_some _ (kp b o e), ?_⟩
  exact .tuple (Heap.get?_push_size _ rfl) rfl rfl (.cons (.int _ _) (.cons (.int _ _) .nil))
end
end PySem.W

set_option Elab.async false
set_option linter.all false
set_option maxRecDepth 100000
set_option autoImplicit false
namespace Sb
open PySem PySem.Spec PyProof.Rows L2
/-! ### sorted(range(e), key=lambda x: (-y[x], x)) -/
def kNeg (xs : List Int) : Int → PyData := fun x => .tuple [.int (-(xs.getD x.toNat 0)), .int x]
def placesOf (xs : List Int) (n : Nat) : List Int := ((List.range n).map fun i : Nat => (i : Int)).mergeSort (PySem.W.dataLe false (kNeg xs))
theorem placesOf_len (xs : List Int) (n : Nat) : (placesOf xs n).length = n := by
  unfold placesOf
  rw [List.length_mergeSort, List.length_map, List.length_range]
def rRng1 : List V → Hp → VK → Prop := fun vs H Q => ∃ j, vs = [V.int j] ∧ ∀ p, H p = none → Q (.ref p) (upd H p (.rng 0 j))
def tSortLam (T : List (Addr × Str)) (K : PySem.W.Frag) (j : Nat) (te : TE) : TE := fun σ H Q => tCB rRng1 (tCons te tNil) σ H fun v H2 => ∃ (n : Nat) (r ta : Addr) (xs : List Int), v = .ref r ∧ H2 r = some (.rng 0 (n : Int)) ∧ n ≤ xs.length ∧ xs.length ≤ 100 ∧ LamX.Tabs T H2 ∧ σ[j]? = some (some (.ref ta)) ∧ SqT K H2 ta (xs.map V.int) ∧
  ∀ H3 l, ExN H2 H3 → LamX.Tabs T H3 → H3 l = none → Q (.ref l) (upd H3 l (.lst ((placesOf xs n).map V.int)))
theorem nt_rng {a b : Int} : NT (.rng a b) := fun ps z => by cases z
theorem vals_each : ∀ {out : List Value} {ns : List Int}, PySem.W.EachIs (fun v x => ∃ t, v = Value.int x t) out ns → Vals (ns.map V.int) out
  | _, _, .nil => .nil
  | _, _, .cons h r => .cons h (vals_each r)
section
variable {X : Cx}
theorem cr_range1 : CallR X (.type "range") rRng1 := by
  intro pins s σ H vs us Q I r h
  obtain ⟨j, rfl, q⟩ := h
  obtain ⟨u1, rfl, rj⟩ := vals1 r
  obtain ⟨u, rfl⟩ := rj
  refine call_range_1 ⟨.ref s.heap.objs.size, upd H s.heap.objs.size (.rng 0 j), I.laid (t' := s.toks + 1 + 1) (fun b o e => Heap.get?_push_of_some _ e) (Nat.le_refl _) ?_, rfl, q _ (I.hok.fresh (Nat.le_refl _))⟩
  exact ⟨s.toks, u, s.toks + 1, Heap.get?_push_size _ rfl⟩
theorem pe_sortLam {T : List (Addr × Str)} {c P : Addr} {k j : Nat} {x y : Str} {params : Arguments} {scope : Scope} {e : Expr} {te : TE} {p0 p1 p2 p3 p4 p5 p7 pr pq lpos kpos pos : Pos} {k6 : Nat}
    (hg : Gl X "sorted") (hm : X.mg "sorted" = none) (hg2 : Gl X "range") (hm2 : X.mg "range" = none) (he : PE X e te) (hr : Room (k + 1) X.A)
    (TB : LamX.TabB X.base X.mg c P) (hcode : X.env.code = .ref c) (hmT : (P, X.env.qual ++ "<lambda>") ∈ T) (hu : ∀ p ∈ T, p.1 = P → p.2 = X.env.qual ++ "<lambda>") (hdef : defaultsOf params X.env = ([], []))
    (hbind : ∀ (q : Str) (cl : List (Str × Addr)) (pm cv ctv v : Value), bindArgs (PySem.W.kla_fn "<lambda>" q params (.Tuple [.UnaryOp .USub (.Subscript (.Name y p1) (.Name x p2) p3) p4, .Name x p5] k6 p7) scope cl pm cv ctv) ⟨[v], []⟩ = pure [(x, v)])
    (hk : scope.kind = .function) (hco : scope.isCoroutine = false) (hgen : scope.isGenerator = false) (hnc : ∀ z ∈ scope.names, z.2 ≠ .cell) (hx : scope.names.lookup x = some .local) (hy : scope.names.lookup y = some .free) (hfr : ∀ z ∈ scope.names, z.2 = .free → z.1 = y)
    (hNj : X.N[j]? = some y) (hyc : X.env.kindOf y = some .cell) (dx : (x == ("__debug__" : Str)) = false) (dy : (y == ("__debug__" : Str)) = false) (cy : (y == ("__classdict__" : Str)) = false)
    (hs1 : starEach [e] X.env = (false, eval e X.env) :: starEach [] X.env := by rfl)
    (hs2 : ∀ (e' : Expr), e' = .Call (.Name "range" pr) [e] [] pq → starEach [e'] X.env = (false, eval e' X.env) :: starEach [] X.env := by intros; subst_vars; rfl) :
    PE X (.Call (.Name "sorted" p0) [.Call (.Name "range" pr) [e] [] pq] [⟨some "key", .Lambda params (.Tuple [.UnaryOp .USub (.Subscript (.Name y p1) (.Name x p2) p3) p4, .Name x p5] k6 p7) scope lpos, kpos⟩] pos) (tSortLam T X.K j te) := by
  refine ⟨fun pins s σ H Q I h => ?_⟩
  refine wpAny_Call_Name_kw (ld_blt I hg hm rfl ?_)
  have pr1 : PE X (.Call (.Name "range" pr) [e] [] pq) _ := pe_callTy (cr_range1 (X := X)) hg2 hm2 boot_range (pa_cons he pa_nil hs1) (by decide) (by decide) hs1 rfl
  refine PyProof.Rows.callWith_kw (args_cons (thn (pr1.run pins s σ H _ I h) fun u s1 hu1 => args_nil ?_) (hs2 _ rfl)) rfl rfl rfl rfl
  obtain ⟨v, H2, I2, rv, n, r, ta, xs, rfl, hrng, hn, hxs, hT, hσ, hq, q⟩ := hu1
  obtain rfl : u = Value.ref r := rv
  have hfree : ∀ z ∈ scope.names, z.2 = .free → ∃ c, X.env.cells.lookup z.1 = some c := fun z hz e => by
    rw [hfr z hz e]
    exact I2.ok.has y (.inl hyc)
  show wpAny _ _ (evalAll [(do let v ← eval (.Lambda params _ scope lpos) X.env; standAt pos; pure v)]) _ _ s1
  refine wpAny_evalAll_cons (wpAny_bind (LamX.lam_make2 I2 TB hcode hmT hu hT hdef hfree fun f c' pm' ctv H3 s3 I3 eN T3 hf hfn hff hco' => wpAny_bind (wpAny_standAt (wpAny_pure (wpAny_evalAll_nil ?_)))))
  show wpAny _ _ (call (.builtin "sorted") [.ref r] [(Str.ofString "key", .ref f)]) _ _ s3
  obtain ⟨t1, t2, t3, hrg⟩ := I3.hok r _ (eN r _ hrng nt_rng)
  have hq3 : SqT X.K H3 ta (xs.map V.int) := ExN.sqT eN hq
  obtain ⟨its, rv, ht, hz⟩ := I3.tuple hq3
  have hlen : its.length = xs.length := by rw [← rv.length, List.length_map]
  obtain ⟨cb, hcb⟩ := I3.ok.has y (.inl hyc)
  have hclo : (cloFrom X.env.cells scope.names []).lookup y = some cb := by
    obtain ⟨c0, h0⟩ := mem_lookup (cloFrom_has (cells := X.env.cells) (acc := []) (PySem.mem_of_lookup hy))
    rcases cloFrom_mem (PySem.mem_of_lookup h0) with hm | ⟨h1, h2⟩
    · cases hm
    · rw [h0, h2, hcb]
      rfl
  have hcell : s3.heap.IsCell cb (some (.ref ta)) := by
    obtain ⟨m, hn, hl⟩ := I3.loc
    obtain ⟨w', r', z⟩ := hl j y (.ref ta) hNj hσ (.inr (.inl hyc))
    obtain rfl : w' = Value.ref ta := r'
    rcases z with ⟨k1, _⟩ | ⟨_, c3, e3, z⟩
    · have k1 : X.env.kindOf y = some .local := k1
      rw [hyc] at k1
      cases k1
    · rw [hcb] at e3
      cases e3
      exact z
  obtain ⟨⟨oc, vs, t, hoc, hdc, hvc⟩, _, _⟩ := I3.hok c' _ hco'
  have hun := hr.un
  have hdp := hr.dp
  refine PySem.W.sorted_range_key (n := n) (kNeg xs) hr.hd hrg ?_ ?_ (by omega) (PySem.W.AllAlike.of fun _ _ => by simp [kNeg, PySem.W.alike, PySem.W.alikeAll]) (PySem.W.Sortable.tuples fun _ => ⟨_, _, rfl⟩) (fun x => ?_) (ksk_s1 _ _) (fun _ => ksk_l1 _ _) (fun _ => ksk_t1 _ _) (fun x t hx h tk kp => ?_) fun out l c h' tk kp hnew hD eo => ?_
  · exact small_one (by omega) (by omega) (by omega) (by omega)
  · rw [rangeSize_one]; split <;> omega
  · have hd : (kNeg xs x).depth = 1 := by simp [kNeg, PyData.depth, PyData.depthAll]
    rw [hd]
    omega
  · obtain ⟨i, hi, rfl⟩ := hx
    have hix : i < xs.length := by omega
    obtain ⟨u, e1, ru⟩ := rv.get (i := i) (x := V.int xs[i]) (by rw [List.getElem?_map, List.getElem?_eq_getElem hix]; rfl)
    obtain ⟨tb, rfl⟩ := ru
    have ek : kNeg xs (i : Int) = .tuple [.int (-xs[i]), .int (i : Int)] := by
      unfold kNeg
      rw [Int.toNat_natCast, List.getD_eq_getElem?_getD, List.getElem?_eq_getElem hix]
      rfl
    rw [ek]
    refine PySem.W.key_call (A := X.A.in1.in1) (s := { s3 with heap := h, toks := tk }) (its := its) (ta := ta) (cb := cb) ?_ (kp _ _ hf) ⟨c', oc, vs, _, rfl, kp _ _ hoc, hdc, hvc⟩ (I3.nolimit.keeps kp) (hbind _ _ _ _ _ _) hk hco hgen hnc hx hy hclo ?_ ?_ (by omega) e1 dx dy cy
    · show X.A.depth < recursionLimit
      omega
    · obtain ⟨o, ho, hd⟩ := hcell
      exact ⟨o, kp _ _ ho, hd⟩
    · obtain ⟨o, e, c, n, d⟩ := ht
      exact ⟨o, kp _ _ e, c, n, d⟩
  · have hg := I3.hok.gone hnew
    refine ⟨.ref l, upd H3 l (.lst ((placesOf xs n).map V.int)), I3.laidN kp hnew hg ⟨?_, out, c, vals_each eo, hD⟩, rfl, q H3 l eN T3 hg⟩
    rw [List.length_map, placesOf_len]
    exact Nat.le_trans (by omega) (show 100 ≤ sizeLine by decide)
end
end Sb

set_option Elab.async false
set_option linter.all false
set_option maxRecDepth 100000
set_option autoImplicit false
namespace Sb
open PySem PySem.Spec PyProof.Rows L2 TL
variable {K : KX} {S : List Addr} {G : List Sl}
theorem dnA_intsD {H : Hp} {ns : List Int} : DnA K H (ns.map Dt.int) (ns.map V.int) := by
  induction ns with
  | nil => exact rfl
  | cons n ns ih => exact ⟨_, _, rfl, rfl, ih⟩
theorem ed_sortLam {j : Nat} {te : TE} {xs : List Int} {n : Nat} (hj : G[j]? = some (.da (.tup (xs.map Dt.int)))) (he : Eg K S G te (· = .int (n : Int))) (hn : n ≤ xs.length) (hx : xs.length ≤ 100) : Eg K S G (tSortLam K.tb K j te) (· = .lst ((placesOf xs n).map Dt.int)) := fun B O σ H hh Q k =>
  he B O σ H hh _ fun v H1 d hd h1 g1 d1 => by
    subst hd
    cases (show v = _ from d1)
    obtain ⟨o, e1, v', rfl, ta, us, rfl, t1, t2⟩ := h1.sl j _ hj
    have eu : us = xs.map V.int := dnA_v t2 (by rw [List.map_map, List.map_map]; rfl)
    subst eu
    refine ⟨(n : Int), rfl, fun p hp => ⟨n, p, ta, xs, rfl, upd_same, hn, hx, h1.tb.ext (new_ex hp), e1, (new_ex hp).sqT ((hid_ex _).sqT t1), fun H3 l eN T3 hl => ?_⟩⟩
    have h3 := ((h1.more (new_ex hp)).moreN eN T3)
    refine k _ _ _ rfl (h3.more (new_ex hl)) ((g1.trans (hid_new hp)).trans ((hid_monoN fun a o _ e n => eN a o e n).trans (hid_new hl))) (new_lst h3.trk hl dnA_intsD)
end Sb

set_option Elab.async false
set_option linter.all false
set_option maxRecDepth 100000
set_option autoImplicit false
namespace Sb
open PySem PySem.Spec PyProof.Rows L2 TL
variable {K : KX}
/-! ### a def that makes a lambda: its code object and its table are known -/
structure TabF (K : KX) (mg : Str → Option Value) (base : Heap) (fd : FuncData) (q : Str) : Prop where
  ex : ∃ c Pt, fd.code = .ref c ∧ LamX.TabB base mg c Pt ∧ (Pt, q) ∈ K.tb ∧ ∀ p ∈ K.tb, p.1 = Pt → p.2 = q
section
variable {P : Program} {w : World} {mg : Str → Option Value} {base : Heap}
theorem fun_okC {x qual : Str} {st : Stmt} {f : Addr} {fd : FuncData} {N ps : List Str} {k : Nat} {sp : Sp} (F : Fun K x qual st f fd) (Sc : FnScope N ps (defScope st)) (len : ∀ vs H Q E, sp vs H Q E → vs.length = ps.length)
    (hbody : ∀ (cdv : Value), fd.code = cdv → ∀ (A : Around) (outer : List Env) (s : Shared) (H : Hp) (vs : List V) (Q : VK) (E : XK), Room k (A.deeper (envOfC qual (defScope st) s.heap.objs.size f cdv)) → sp vs H Q E →
      ∃ t, PSs (cxOf CX0 P w K mg base N qual (defScope st) f cdv A outer s H E).nox (defBody st) t ∧ t { nx := fun _ H' => Q .non H', rt := Q } (L2.start N vs) H) : FnOk P w K mg base CX0 (k + 1) f fd ps sp := by
  obtain ⟨oc, od, kV, doc, pm, an, cdv, ct, osl, rfl, lk, hcd⟩ := F.ex
  refine fn_of lk hcd Sc len fun A outer s H vs Q E hr hsp => ?_
  obtain ⟨t, h, q⟩ := hbody cdv rfl A outer s H vs Q E hr hsp
  exact ⟨t, h.nox, q⟩
variable {al : Type} {rep : al → List Dt} {ok : al → Prop} {post : al → Dt → Prop}
theorem fn_xC {x qual : Str} {st : Stmt} {f : Addr} {fd : FuncData} {N ps : List Str} {k : Nat} (F : Fun K x qual st f fd) (Sc : FnScope N ps (defScope st)) (hl : ∀ a, (rep a).length = ps.length)
    (hb : ∀ (cdv : Value), fd.code = cdv → ∀ (A : Around) (outer : List Env) (s : Shared) (H : Hp) (E : XK), Room k (A.deeper (envOfC qual (defScope st) s.heap.objs.size f cdv)) →
      ∃ t, PSs (cxOf CX0 P w K mg base N qual (defScope st) f cdv A outer s H E).nox (defBody st) t ∧ ∀ a, ok a → Run K [] t (fr0 (rep a) N.length) (fun _ => post a .non) (post a) (fun _ => False)) :
    FnOk P w K mg base CX0 (k + 1) f fd ps (spX K rep ok post) := by
  refine fun_okC F Sc (fun vs H Q E h => ?_) fun cdv ec A outer s H vs Q E hr h => ?_
  · obtain ⟨a, _, _, ds, _, _, _, d, rfl, _⟩ := h
    rw [DnA.len d]
    exact hl a
  · obtain ⟨t, h1, h2⟩ := hb cdv ec A outer s H E hr
    obtain ⟨a, oka, h⟩ := h
    exact ⟨t, h1, endP h fun ds e => by subst e; exact h2 a oka⟩
end
/-! ### what the places are -/
theorem placesOf_mem {xs : List Int} {n : Nat} {i : Int} (h : i ∈ placesOf xs n) : ∃ j : Nat, j < n ∧ i = (j : Int) := by
  unfold placesOf at h
  have := (List.mergeSort_perm _ _).mem_iff.mp h
  obtain ⟨j, hj, rfl⟩ := List.mem_map.mp this
  exact ⟨j, List.mem_range.mp hj, rfl⟩
end Sb

set_option Elab.async false
set_option linter.all false
set_option maxRecDepth 100000
set_option autoImplicit false
namespace Sb
open PySem PySem.Spec PyProof.Rows L2 TL
section
variable {P : Program} {w : World} {K : KX} {mg : Str → Option Value} {base : Heap} {aS aO C : Addr}
/-! ### standing -/
structure StIn where
  seats : List Str
  bids : List Int
def StIn.ok (a : StIn) : Prop := a.bids.length = a.seats.length ∧ a.seats.length ≤ 4
def stand (seats : List Str) (bids : List Int) : List Str := (placesOf bids seats.length).map fun i => seats.getD i.toNat sKeep
abbrev sp_standing (K : KX) : Sp := spX K (fun a : StIn => [Dt.tup (strsD a.seats), .tup (intsD a.bids)]) StIn.ok (fun a e => e = .lst (strsD (stand a.seats a.bids)))
theorem ok_standingG {f : Addr} {fd : FuncData} (F : Fun K "standing" "standing" s_standing f fd) (B : Bf K mg aS aO) (n_sorted : mg "sorted" = none) (tf : TabF K mg base fd ("standing" ++ ".<locals>." ++ "<lambda>")) : FnOk P w K mg base CX0 2 f fd A_standing (sp_standing K) := by
  refine fn_xC F sc_standing (fun _ => rfl) fun cdv ec A outer s H E hr => ?_
  obtain ⟨c, Pt, hc, TB, hmT, hu⟩ := tf.ex
  have hcode : cdv = .ref c := ec.symm.trans hc
  refine ⟨_, (pss_cons (ps_set (i := 2) sc_standing.nd rfl (Or.inl rfl) (pe_sortLam (T := K.tb) (j := 1) (by rfl) n_sorted (by rfl) B.n_range (pe_callB (call_lenK (K := K)) (by rfl) B.n_len (by decide +kernel) (pa_cons (pv 0) pa_nil)) hr TB hcode hmT hu rfl (fun _ _ _ _ _ _ => rfl) rfl rfl rfl (by decide +kernel) rfl rfl (by decide +kernel) rfl rfl (by decide +kernel) (by decide +kernel) (by decide +kernel))) (pss_one (ps_ret (pe_lc (own := [("at", 3)]) (g := gName 3) (by rfl) sc_standing.nd (pi_anyK (K := K) (pv 2)) (blkOk_by (own := [("at", 3)]) (N := N_standing) (sc := defScope s_standing) (by decide +kernel)) (fun _ _ _ _ _ => (pg_name (i := 3) sc_standing.nd rfl (Or.inl rfl))) (fun _ _ _ _ _ => pts_nil) (fun _ _ _ _ _ => (pe_ix (ix_anyK (K := K)) (pv 0) (pv 3) (fun _ _ => rfl))))))), fun a ha => ?_⟩
  obtain ⟨seats, bids⟩ := a
  have hl : bids.length = seats.length := ha.1
  have h4 : seats.length ≤ 4 := ha.2
  refine q_set (d := .lst ((placesOf bids seats.length).map Dt.int)) (ed_sortLam (xs := bids) rfl (ed_cb (ea_1 (eg_var rfl)) (rc_len (n := seats.length) (d := .tup (strsD seats)) (by show some _ = some _; rw [strsD_len]) (by omega) rfl)) (by omega) (by omega)) ?_
  refine run_ret (eg_eq (ed_lcG (al := Int) (xs := placesOf bids seats.length) (g := Dt.int) (h := fun i => Dt.str (seats.getD i.toNat sKeep)) rfl (wk_any1 (eg_var rfl) rfl) (by rw [placesOf_len]; omega) (fun x _ y _ e => by cases e; rfl) fun i hi => ?_) ?_)
  · obtain ⟨j, hj, rfl⟩ := placesOf_mem hi
    refine ed_ixT (ds := strsD seats) (eg_var rfl) (eg_var rfl) ?_
    have e : (strsD seats)[j]? = some (Dt.str (seats.getD j sKeep)) := by
      unfold strsD
      rw [List.getElem?_map, List.getElem?_eq_getElem hj, List.getD_eq_getElem?_getD, List.getElem?_eq_getElem hj]
      rfl
    rw [Int.toNat_natCast]
    exact atI_nat e
  · unfold stand strsD
    rw [List.map_map]
    rfl
end
end Sb

set_option Elab.async false
set_option linter.all false
set_option maxRecDepth 100000
set_option autoImplicit false
namespace Sb
open PySem PySem.Spec PyProof.Rows L2 TL
section
variable {P : Program} {w : World} {K : KX} {mg : Str → Option Value} {base : Heap} {aS aO C : Addr}
/-! ### sale, with places too -/
structure SaG where
  d : Deed
  seats : List Str
  bids : List Int
  ws : List (Str × Int)
structure SaG.ok (a : SaG) : Prop where
  len : a.bids.length = a.seats.length
  n4 : a.seats.length ≤ 4
  dd : ∀ w p, a.d = .sell w p → (∀ k, w = .place k → 1 ≤ k ∧ k ≤ a.seats.length) ∧ p.has a.ws
def whoG (seats : List Str) (bids : List Int) : Who → Str
  | .seat x => x
  | .place k => (stand seats bids).getD (k - 1) sKeep
def resG (seats : List Str) (bids : List Int) (ws : List (Str × Int)) : Deed → Dt
  | .keep => .non
  | .sell w p => .tup [.str (whoG seats bids w), .int (p.val ws)]
theorem stand_len (seats : List Str) (bids : List Int) : (stand seats bids).length = seats.length := by unfold stand; rw [List.length_map, placesOf_len]
abbrev sp_saleG (K : KX) : Sp := spX K (fun a : SaG => [a.d.d, .tup (strsD a.seats), .tup (intsD a.bids), .dic (wsD a.ws)]) SaG.ok (fun a e => e = resG a.seats a.bids a.ws a.d)
theorem ok_saleG {f : Addr} {fd : FuncData} (F : Fun K "sale" "sale" s_sale f fd) (B : Bf K mg aS aO) (c_is_integer : Cal P w K mg base 1 "is_integer" (sp_is_integer K)) (c_part_worth : Cal P w K mg base 2 "part_worth" (sp_part_worth K)) (c_standing : Cal P w K mg base 2 "standing" (sp_standing K)) :
    FnOk P w K mg base CX0 3 f fd A_sale (sp_saleG K) := by
  refine fn_x F sc_sale (fun _ => rfl) fun cdv A outer s H E hr => ⟨_, (pss_cons (ps_if (pt_cmpR (op_eqK (K := K) hr.units) (pe_ix (ix_anyK (K := K)) (pv 0) pe_int (fun _ _ => rfl)) pe_str (nomark _)) (pss_one (ps_ret pe_non)) pss_nil) (pss_cons (ps_set (i := 4) sc_sale.nd rfl (Or.inl rfl) (pe_ifExp (pt_val (pe_c c_is_integer hr (by decide) (by rfl) (pa_cons (pe_ix (ix_anyK (K := K)) (pv 0) pe_int (fun _ _ => rfl)) pa_nil))) (pe_ix (ix_anyK (K := K)) (pe_c c_standing hr (by decide) (by rfl) (pa_cons (pv 1) (pa_cons (pv 2) pa_nil))) (pe_op op_sub (pe_ix (ix_anyK (K := K)) (pv 0) pe_int (fun _ _ => rfl)) pe_int) (fun _ _ => rfl)) (pe_ix (ix_anyK (K := K)) (pv 0) pe_int (fun _ _ => rfl)))) (pss_one (ps_ret (pe_tup (pa_cons (pv 4) (pa_cons (pe_c c_part_worth hr (by decide) (by rfl) (pa_cons (pe_ix (ix_anyK (K := K)) (pv 0) pe_int (fun _ _ => rfl)) (pa_cons (pv 3) pa_nil))) pa_nil))))))), fun a ha => ?_⟩
  obtain ⟨dd, seats, bids, ws⟩ := a
  have hl : bids.length = seats.length := ha.len
  have h4 : seats.length ≤ 4 := ha.n4
  cases dd with
  | keep => exact q_yes (et_eq (et_tst1 (ed_eqS (i := sKeep) (j := sKeep) (ed_ixT (ds := [.str sKeep]) (eg_var rfl) eg_int at0) eg_str)) (decide_eq_true rfl)) (run_ret eg_non)
  | sell ww p =>
    obtain ⟨hw, hp⟩ := ha.dd ww p rfl
    refine q_no (et_eq (et_tst1 (ed_eqS (i := sSell) (j := sKeep) (ed_ixT (ds := [.str sSell, ww.d, p.d]) (eg_var rfl) eg_int at0) eg_str)) (by decide +kernel)) ?_
    refine q_set (d := .str (whoG seats bids ww)) ?_ (run_ret (ed_tup (ea_2 (eg_var rfl) (ed_callX (out := fun a : PwIn => Dt.int (a.p.val a.ws)) ⟨p, ws⟩ (ea_2 (ed_ixT (ds := [.str sSell, ww.d, p.d]) (eg_var rfl) eg_int at2) (eg_var rfl)) hp))))
    cases ww with
    | seat x => exact eg_if (p := (· = false)) (et_B1 (ed_callX (out := fun d : Dt => Dt.bl (isInt d)) (.str x) (ea_1 (ed_ixT (ds := [.str sSell, .str x, p.d]) (eg_var rfl) eg_int at1)) rfl)) (fun z => (Bool.false_ne_true z.symm).elim) fun _ => ed_ixT (ds := [.str sSell, .str x, p.d]) (eg_var rfl) eg_int at1
    | place k =>
      obtain ⟨k1, k2⟩ := hw k rfl
      have k2 : k ≤ seats.length := k2
      refine eg_if (p := (· = true)) (et_B1 (ed_callX (out := fun d : Dt => Dt.bl (isInt d)) (.int (k : Int)) (ea_1 (ed_ixT (ds := [.str sSell, .int (k : Int), p.d]) (eg_var rfl) eg_int at1)) rfl)) (fun _ => ?_) fun z => (Bool.false_ne_true z).elim
      refine ed_ixL (ds := strsD (stand seats bids)) (ed_callX (out := fun a : StIn => Dt.lst (strsD (stand a.seats a.bids))) ⟨seats, bids⟩ (ea_2 (eg_var rfl) (eg_var rfl)) ⟨hl, h4⟩) (ed_sub (ed_ixT (ds := [.str sSell, .int (k : Int), p.d]) (eg_var rfl) eg_int at1) eg_int) ?_
      have hk : k - 1 < (stand seats bids).length := by rw [stand_len]; omega
      have e : (strsD (stand seats bids))[k - 1]? = some (Dt.str ((stand seats bids).getD (k - 1) sKeep)) := by
        unfold strsD
        rw [List.getElem?_map, List.getElem?_eq_getElem hk, List.getD_eq_getElem?_getD, List.getElem?_eq_getElem hk]
        rfl
      have e2 : ((k : Int) - 1) = ((k - 1 : Nat) : Int) := by omega
      rw [e2]
      exact atI_nat e
/-! ### outcome, with lines -/
structure OutG where
  seats : List Str
  ls : List Ln
  rows : List Row
  bids : List Int
structure OutG.ok (a : OutG) : Prop where
  seats : SeatsOk a.seats
  lines : LinesOk a.seats a.ls
  rows : RowsOk a.seats (a.seats ++ nmL a.ls) a.rows
  len : a.bids.length = a.seats.length
  nn : ∀ b ∈ a.bids, 0 ≤ b
def outG (seats : List Str) (ls : List Ln) (rows : List Row) (bids : List Int) : Dt := resG seats bids (worthsL (seats.zip bids) ls) (firstD (worthsL (seats.zip bids) ls) rows)
theorem pt_hasL {seats : List Str} {ls : List Ln} {bids : List Int} (hl : bids.length = seats.length) {p : Pt} (h : p.ok (seats ++ nmL ls)) : p.has (worthsL (seats.zip bids) ls) := by
  cases p with
  | nm x => exact has_key (by rw [worthsL_keys, zip_keys hl]; exact h)
  | nu n => trivial
abbrev sp_outG (K : KX) (C : Addr) : Sp := spX K (fun a : OutG => [Dt.obj C (ruleL a.seats a.ls a.rows), .tup (intsD a.bids)]) OutG.ok (fun a e => e = outG a.seats a.ls a.rows a.bids)
theorem ok_Rule_outG {f : Addr} {fd : FuncData} (F : Fun K "outcome" "Rule.outcome" s_Rule_outcome f fd) (R : RC K C) (B : Bf K mg aS aO) (p_seats : PrX P w K mg base 1 C "seats" (sp_seatsL K C)) (c_check_bids : Cal P w K mg base 2 "check_bids" (sp_check_bids K))
    (m_worths : Met P w K mg base 4 C "worths" (sp_worthsL K C)) (c_holds : Cal P w K mg base 3 "holds" (sp_holds K)) (c_sale : Cal P w K mg base 3 "sale" (sp_saleG K)) :
    FnOk P w K mg base CX0 5 f fd A_Rule_outcome (sp_outG K C) := by
  refine fn_x F sc_Rule_outcome (fun _ => rfl) fun cdv A outer s H E hr => ⟨_, (pss_cons (ps_expr (pe_c c_check_bids hr (by decide) (by rfl) (pa_cons (pv 1) (pa_cons (pe_propX p_seats hr (by decide) (pv 0)) pa_nil)))) (pss_cons (ps_set (i := 2) sc_Rule_outcome.nd rfl (Or.inr rfl) (pe_mt m_worths hr (by decide) (pv 0) (pa_cons (pv 1) pa_nil))) (pss_cons (ps_setLc (i := 3) (own := [("condition", 4), ("done", 5)]) (g := gTup K 2 (gCons (gName 4) (gCons (gName 5) gNil))) (by rfl) sc_Rule_outcome.nd rfl rfl (sw_true rfl rfl rfl (by decide +kernel)) (pi_anyK (K := K) (pe_fld (pv 0) rfl)) (blkOk_by (own := [("condition", 4), ("done", 5)]) (N := N_Rule_outcome) (sc := defScope s_Rule_outcome) (by decide +kernel)) (fun _ _ _ _ _ => (pg_tup rfl (pgs_cons (pg_name (i := 4) sc_Rule_outcome.nd rfl (Or.inl rfl)) (pgs_cons (pg_name (i := 5) sc_Rule_outcome.nd rfl (Or.inl rfl)) pgs_nil)))) (fun _ _ _ _ _ => (pts_one (pt_val (pe_c c_holds hr (by decide) (by rfl) (pa_cons (pv 4) (pa_cons (pv 2) pa_nil)))))) (fun _ _ _ _ _ => (pv 5))) (pss_one (ps_ret (pe_c c_sale hr (by decide) (by rfl) (pa_cons (pe_ix (ix_anyK (K := K)) (pv 3) pe_int (fun _ _ => rfl)) (pa_cons (pe_propX p_seats hr (by decide) (pv 0)) (pa_cons (pv 1) (pa_cons (pv 2) pa_nil)))))))))), fun a ha => ?_⟩
  obtain ⟨seats, ls, rows, bids⟩ := a
  have h1 : SeatsOk seats := ha.seats
  have h0 : LinesOk seats ls := ha.lines
  have h2 : RowsOk seats (seats ++ nmL ls) rows := ha.rows
  have hl : bids.length = seats.length := ha.len
  have hnn : ∀ b ∈ bids, 0 ≤ b := ha.nn
  have hst : ∀ {G : List Sl} {te : TE}, Eg K [] G te (· = .obj C (ruleL seats ls rows)) → Eg K [] G (tProp C (sp_seatsL K C) [] E0 te) (· = .tup (strsD seats)) := fun h => eg_propX (⟨seats, ls, rows⟩ : TextInL) h rfl trivial fun _ e => e
  refine q_drop (ed_callX (out := fun _ : BidsIn => Dt.non) ⟨bids, seats⟩ (ea_2 (eg_var rfl) (hst (eg_var rfl))) ⟨hl, h1.n4, hnn⟩) ?_
  refine q_set (d := .dic (wsD (worthsL (seats.zip bids) ls))) (eg_methX (px := (· = [.tup (intsD bids)])) (eg_var rfl) rfl (ea_1 (eg_var rfl)) fun es e => ⟨(⟨seats, ls, rows, bids⟩ : WoInL), by rw [e], ⟨h1, h0, hl⟩, fun _ e => e⟩) ?_
  obtain ⟨r0, hr0, er0, at0'⟩ := first_at (worthsL (seats.zip bids) ls) (last_none h2)
  have ln6 := h2.n6
  refine q_set (d := .lst (((stD rows).filter (rowB (worthsL (seats.zip bids) ls))).map rowF)) (ed_lcIf2 rfl rfl (by decide) (wk_any1 (d := .tup (stD rows)) (eg_fld (eg_var rfl) R.cls R.n_steps rfl) rfl) (by unfold stD; rw [List.length_map]; omega) fun d hd => ?_) ?_
  · obtain ⟨r, hr, rfl⟩ := List.mem_map.mp hd
    refine ⟨oc r.c, r.d.d, row_dt r, et_eq (et_B1 (ed_callX (out := fun a : HoIn => Dt.bl (oev a.ws a.c)) ⟨r.c, worthsL (seats.zip bids) ls⟩ (ea_2 (eg_var rfl) (eg_var rfl)) fun c hc => ?_)) ?_, fun _ => eg_eq (eg_var rfl) ?_⟩
    · have hc' : c.ok (seats ++ nmL ls) := (h2.ok r hr).2 c hc
      exact ⟨pt_hasL hl hc'.1, pt_hasL hl hc'.2⟩
    · rw [row_dt]
      exact (cev_d _ _).symm
    · rw [row_dt]
      rfl
  · refine run_ret (eg_eq (ed_callX (out := fun a : SaG => resG a.seats a.bids a.ws a.d) ⟨r0.d, seats, bids, worthsL (seats.zip bids) ls⟩ (ea_4 (ed_ixL (eg_var rfl) eg_int (by rw [reached_eq]; exact at0')) (hst (eg_var rfl)) (eg_var rfl) (eg_var rfl)) ⟨hl, h1.n4, fun ww p e => ?_⟩) ?_)
    · have hd := (h2.ok r0 hr0).1
      have e' : r0.d = .sell ww p := e
      rw [e'] at hd
      refine ⟨fun k ek => ?_, pt_hasL hl hd.2⟩
      have hw := hd.1
      rw [ek] at hw
      exact hw
    · unfold outG
      rw [er0]
end
end Sb

set_option Elab.async false
set_option linter.all false
set_option maxRecDepth 100000
set_option autoImplicit false
namespace Sb
open PySem PySem.Spec PyProof.Rows L2 TL
/-! ### the index in a sorted list is the number of what stands before -/
theorem pos_count {α : Type} (lt : α → α → Bool) {l : List α} {p : Nat} {x : α} (hp : l[p]? = some x) (h1 : ∀ a ∈ l.take p, lt a x = true) (h2 : lt x x = false) (h3 : ∀ b ∈ l.drop (p + 1), lt b x = false) : l.countP (fun a => lt a x) = p := by
  have hlt : p < l.length := (List.getElem?_eq_some_iff.mp hp).1
  have e : l = l.take p ++ x :: l.drop (p + 1) := by
    have : l[p] = x := by rw [List.getElem?_eq_getElem hlt] at hp; exact Option.some.inj hp
    rw [← this, ← List.drop_eq_getElem_cons hlt, List.take_append_drop]
  have c1 : (l.take p).countP (fun a => lt a x) = p := by
    rw [List.countP_eq_length.mpr h1, List.length_take]
    omega
  have c2 : (l.drop (p + 1)).countP (fun a => lt a x) = 0 := List.countP_eq_zero.mpr fun b hb => by rw [h3 b hb]; exact Bool.false_ne_true
  conv => lhs; rw [e]
  rw [List.countP_append, List.countP_cons, c1, c2, h2]
  rfl
def plLe (xs : List Int) (p q : Int) : Bool := decide (-(xs.getD p.toNat 0) < -(xs.getD q.toNat 0) ∨ (-(xs.getD p.toNat 0) = -(xs.getD q.toNat 0) ∧ p ≤ q))
theorem placesOf_eq (xs : List Int) (n : Nat) : placesOf xs n = ((List.range n).map fun i : Nat => (i : Int)).mergeSort (plLe xs) := by
  unfold placesOf
  have e : PySem.W.dataLe false (kNeg xs) = plLe xs := PySem.W.dataLe_ii (β := Int) (fun x => -(xs.getD x.toNat 0)) (fun x => x)
  rw [e]
theorem plLe_trans (xs : List Int) (a b c : Int) (h1 : plLe xs a b = true) (h2 : plLe xs b c = true) : plLe xs a c = true := by
  unfold plLe at *
  rw [decide_eq_true_eq] at *
  omega
theorem plLe_total (xs : List Int) (a b : Int) : (plLe xs a b || plLe xs b a) = true := by
  unfold plLe
  rw [Bool.or_eq_true, decide_eq_true_eq, decide_eq_true_eq]
  omega
theorem plLe_anti (xs : List Int) {a b : Int} (h1 : plLe xs a b = true) (h2 : plLe xs b a = true) : a = b := by
  unfold plLe at *
  rw [decide_eq_true_eq] at *
  omega
def plLt (xs : List Int) (p q : Int) : Bool := plLe xs p q && !decide (p = q)
theorem places_at (xs : List Int) {n j : Nat} (hj : j < n) : (placesOf xs n)[(((List.range n).map fun i : Nat => (i : Int)).countP fun i => plLt xs i (j : Int))]? = some (j : Int) := by
  rw [placesOf_eq]
  have pm := List.mergeSort_perm ((List.range n).map fun i : Nat => (i : Int)) (plLe xs)
  have pw : (((List.range n).map fun i : Nat => (i : Int)).mergeSort (plLe xs)).Pairwise fun a b => plLe xs a b = true := List.pairwise_mergeSort (le := plLe xs) (plLe_trans xs) (plLe_total xs) _
  have nd : (((List.range n).map fun i : Nat => (i : Int)).mergeSort (plLe xs)).Nodup := pm.nodup_iff.mpr (List.Pairwise.map _ (fun a b ne e => ne (Int.ofNat.inj e)) List.nodup_range)
  have hm : (j : Int) ∈ ((List.range n).map fun i : Nat => (i : Int)).mergeSort (plLe xs) := pm.mem_iff.mpr (List.mem_map.mpr ⟨j, List.mem_range.mpr hj, rfl⟩)
  rw [← pm.countP_eq]
  generalize ((List.range n).map fun i : Nat => (i : Int)).mergeSort (plLe xs) = l at pw nd hm
  obtain ⟨p, hp⟩ := List.mem_iff_getElem?.mp hm
  have hlt : p < l.length := (List.getElem?_eq_some_iff.mp hp).1
  have e : l = l.take p ++ (j : Int) :: l.drop (p + 1) := by
    have : l[p] = (j : Int) := by rw [List.getElem?_eq_getElem hlt] at hp; exact Option.some.inj hp
    rw [← this, ← List.drop_eq_getElem_cons hlt, List.take_append_drop]
  have pw2 := pw
  have nd2 := nd
  rw [e] at pw2 nd2
  obtain ⟨_, q1, q2⟩ := List.pairwise_append.mp pw2
  obtain ⟨_, n1, n2⟩ := List.nodup_append.mp nd2
  have hc : l.countP (fun i => plLt xs i (j : Int)) = p := by
    refine pos_count (plLt xs) hp (fun a ha => ?_) ?_ fun b hb => ?_
    · have h1 := q2 a ha (j : Int) (by simp)
      have h2 : a ≠ (j : Int) := n2 a ha (j : Int) (by simp)
      unfold plLt
      rw [h1, decide_eq_false h2]
      rfl
    · unfold plLt
      rw [decide_eq_true rfl]
      simp
    · have h1 := (List.pairwise_cons.mp q1).1 b hb
      have h2 : (j : Int) ≠ b := fun z => (List.nodup_cons.mp n1).1 (by rw [z]; exact hb)
      unfold plLt
      cases h3 : plLe xs b (j : Int) with
      | false => rfl
      | true => exact absurd (plLe_anti xs h1 h3) h2
  rw [hc]
  exact hp
end Sb

set_option Elab.async false
set_option linter.all false
set_option maxRecDepth 100000
set_option autoImplicit false
namespace Sb
open PySem PySem.Spec PyProof.Rows L2 TL
abbrev s__law_ahead : Stmt := top 53
abbrev N__law_ahead : List Str := ["_law_offers_here", "_law_place", "_law_earlier", "_law_k"]
abbrev A__law_ahead : List Str := ["_law_offers_here", "_law_place"]
theorem sc__law_ahead : FnScope N__law_ahead A__law_ahead (defScope s__law_ahead) :=
  ⟨rfl, rfl, rfl, by decide +kernel, rfl, by decide +kernel, by decide +kernel⟩
/-! ### how many stand ahead -/
def geB (bids : List Int) (j : Nat) : Dt → Bool
  | .int i => decide (bids.getD i.toNat 0 ≥ bids.getD j 0)
  | _ => false
def gtB (bids : List Int) (j : Nat) : Dt → Bool
  | .int i => decide (bids.getD i.toNat 0 > bids.getD j 0)
  | _ => false
def aheadN (bids : List Int) (j : Nat) : Nat := ((rng 0 j).filter (geB bids j)).length + ((rng ((j : Int) + 1) (bids.length - (j + 1))).filter (gtB bids j)).length
theorem ahead_eq (bids : List Int) {j : Nat} (hj : j < bids.length) : aheadN bids j = ((List.range bids.length).map fun i : Nat => (i : Int)).countP fun i => plLt bids i (j : Int) := by
  have e : List.range bids.length = (List.range j ++ [j]) ++ (List.range (bids.length - (j + 1))).map (fun i => (j + 1) + i) := by
    have h : bids.length = (j + 1) + (bids.length - (j + 1)) := by omega
    conv => lhs; rw [h]
    rw [List.range_add, List.range_succ]
  unfold aheadN rng
  rw [← List.countP_eq_length_filter, ← List.countP_eq_length_filter, List.countP_map, List.countP_map, List.countP_map, e, List.countP_append, List.countP_append, List.countP_map]
  have e1 : (List.range j).countP (geB bids j ∘ fun i : Nat => Dt.int (0 + (i : Int))) = (List.range j).countP ((fun i => plLt bids i (j : Int)) ∘ fun i : Nat => (i : Int)) := by
    refine List.countP_congr fun i hi => ?_
    have hi : i < j := List.mem_range.mp hi
    show geB bids j (Dt.int (0 + (i : Int))) = true ↔ plLt bids (i : Int) (j : Int) = true
    unfold geB plLt plLe
    simp only [Int.zero_add, Int.toNat_natCast, Bool.and_eq_true, Bool.not_eq_true', decide_eq_true_eq, decide_eq_false_iff_not]
    omega
  have e2 : ([j] : List Nat).countP ((fun i => plLt bids i (j : Int)) ∘ fun i : Nat => (i : Int)) = 0 := by
    refine List.countP_eq_zero.mpr fun i hi => ?_
    rw [List.mem_singleton.mp hi]
    show ¬ plLt bids (j : Int) (j : Int) = true
    unfold plLt
    simp
  have e3 : (List.range (bids.length - (j + 1))).countP (gtB bids j ∘ fun i : Nat => Dt.int ((j : Int) + 1 + (i : Int))) = (List.range (bids.length - (j + 1))).countP (((fun i => plLt bids i (j : Int)) ∘ fun i : Nat => (i : Int)) ∘ fun i => (j + 1) + i) := by
    refine List.countP_congr fun i hi => ?_
    show gtB bids j (Dt.int ((j : Int) + 1 + (i : Int))) = true ↔ plLt bids ((j + 1 + i : Nat) : Int) (j : Int) = true
    have q : ((j : Int) + 1 + (i : Int)) = ((j + 1 + i : Nat) : Int) := by omega
    rw [q]
    unfold gtB plLt plLe
    simp only [Int.toNat_natCast, Bool.and_eq_true, Bool.not_eq_true', decide_eq_true_eq, decide_eq_false_iff_not]
    omega
  rw [e1, e2, e3]
  rfl
section
variable {P : Program} {w : World} {K : KX} {mg : Str → Option Value} {base : Heap} {aS aO C : Addr}
structure AhIn where
  bids : List Int
  j : Nat
def AhIn.ok (a : AhIn) : Prop := a.j < a.bids.length ∧ a.bids.length ≤ 4
abbrev sp_ahead (K : KX) : Sp := spX K (fun a : AhIn => [Dt.tup (intsD a.bids), .int (a.j : Int)]) AhIn.ok (fun a e => e = .int (aheadN a.bids a.j : Int))
theorem ix_ints {S : List Addr} {G : List Sl} {ta tb : TE} {bids : List Int} {i : Nat} (hi : i < bids.length) (ha : Eg K S G ta (· = .tup (intsD bids))) (hb : Eg K S G tb (· = .int (i : Int))) : Eg K S G (tOp (rIxA K) ta tb) (· = .int (bids.getD i 0)) := by
  refine ed_ixT ha hb ?_
  have e : (intsD bids)[i]? = some (Dt.int (bids.getD i 0)) := by
    unfold intsD
    rw [List.getElem?_map, List.getElem?_eq_getElem hi, List.getD_eq_getElem?_getD, List.getElem?_eq_getElem hi]
    rfl
  exact atI_nat e
theorem ed_geI {S : List Addr} {G : List Sl} {ta tb : TE} {i j : Int} (ha : Eg K S G ta (· = .int i)) (hb : Eg K S G tb (· = .int j)) : Eg K S G (tOp (rI0 fun i j => .bl (decide (i ≥ j))) ta tb) (· = .bl (decide (i ≥ j))) := ed_op ha hb fun P H v w Q t d1 d2 k => ⟨i, j, d1, d2, rv_out k rfl rfl⟩
theorem ed_gtI {S : List Addr} {G : List Sl} {ta tb : TE} {i j : Int} (ha : Eg K S G ta (· = .int i)) (hb : Eg K S G tb (· = .int j)) : Eg K S G (tOp (rI0 fun i j => .bl (decide (i > j))) ta tb) (· = .bl (decide (i > j))) := ed_op ha hb fun P H v w Q t d1 d2 k => ⟨i, j, d1, d2, rv_out k rfl rfl⟩
theorem ea_impL {S : List Addr} {G : List Sl} {tA : TA} {p q : List Dt → Prop} (h : Ea K S G tA p) (i : ∀ ds, p ds → q ds) : Ea K S G tA q := fun B O σ H hh Q k => h B O σ H hh Q fun vs H' ds pd => k vs H' ds (i ds pd)
theorem wk_r1 {S : List Addr} {G : List Sl} {te : TE} {n : Nat} (h : Eg K S G te (· = .int (n : Int))) (hn : n ≤ 1000) : Wk K S G (iRng1 (tCons te tNil)) (· = rng 0 n) := wk_rng1 (ea_impL (ea_1 h) fun ds e => ⟨(n : Int), e, by omega, by omega, by rw [Int.toNat_natCast]⟩)
theorem wk_r2 {S : List Addr} {G : List Sl} {ta tb : TE} {m n : Int} (h1 : Eg K S G ta (· = .int m)) (h2 : Eg K S G tb (· = .int n)) (hm : 0 ≤ m ∧ m ≤ 1000) (hn : 0 ≤ n ∧ n ≤ 1000) : Wk K S G (iRng2 (tCons ta (tCons tb tNil))) (· = rng m (n - m).toNat) := wk_rng2 (ea_impL (ea_2 h1 h2) fun ds e => ⟨m, n, e, ⟨by omega, by omega, by omega, by omega⟩, rfl⟩)
theorem ok__law_ahead {f : Addr} {fd : FuncData} (F : Fun K "_law_ahead" "_law_ahead" s__law_ahead f fd) (B : Bf K mg aS aO) : FnOk P w K mg base CX0 1 f fd A__law_ahead (sp_ahead K) := by
  refine fn_x F sc__law_ahead (fun _ => rfl) fun cdv A outer s H E hr => ⟨_, (pss_cons (ps_setLc (i := 2) (own := [("_law_k", 3)]) (g := gName 3) (by rfl) sc__law_ahead.nd rfl rfl (sw_true rfl rfl rfl (by decide +kernel)) (pi_range1 rfl B.n_range (pa_cons (pv 1) pa_nil)) (blkOk_by (own := [("_law_k", 3)]) (N := N__law_ahead) (sc := defScope s__law_ahead) (by decide +kernel)) (fun _ _ _ _ _ => (pg_name (i := 3) sc__law_ahead.nd rfl (Or.inl rfl))) (fun _ _ _ _ _ => (pts_one (pt_cmpR op_ge (pe_ix (ix_anyK (K := K)) (pv 0) (pv 3) (fun _ _ => rfl)) (pe_ix (ix_anyK (K := K)) (pv 0) (pv 1) (fun _ _ => rfl)) (nomark _)))) (fun _ _ _ _ _ => (pv 3))) (pss_one (ps_ret (pe_op (op_addK (K := K)) (pe_callB (call_lenK (K := K)) (by rfl) B.n_len (by decide +kernel) (pa_cons (pv 2) pa_nil)) (pe_callB (call_lenK (K := K)) (by rfl) B.n_len (by decide +kernel) (pa_cons (pe_lc (own := [("_law_k", 3)]) (g := gName 3) (by rfl) sc__law_ahead.nd (pi_range2 rfl B.n_range (pa_cons (pe_op (op_addK (K := K)) (pv 1) pe_int) (pa_cons (pe_callB (call_lenK (K := K)) (by rfl) B.n_len (by decide +kernel) (pa_cons (pv 0) pa_nil)) pa_nil))) (blkOk_by (own := [("_law_k", 3)]) (N := N__law_ahead) (sc := defScope s__law_ahead) (by decide +kernel)) (fun _ _ _ _ _ => (pg_name (i := 3) sc__law_ahead.nd rfl (Or.inl rfl))) (fun _ _ _ _ _ => (pts_one (pt_cmpR op_gt (pe_ix (ix_anyK (K := K)) (pv 0) (pv 3) (fun _ _ => rfl)) (pe_ix (ix_anyK (K := K)) (pv 0) (pv 1) (fun _ _ => rfl)) (nomark _)))) (fun _ _ _ _ _ => (pv 3))) pa_nil)))))), fun a ha => ?_⟩
  obtain ⟨bids, j⟩ := a
  have hj : j < bids.length := ha.1
  have h4 : bids.length ≤ 4 := ha.2
  have hz : (((bids.length : Int) - ((j : Int) + 1)).toNat) = bids.length - (j + 1) := by omega
  have l1 : ((rng 0 j).filter (geB bids j)).length ≤ 100000 := by
    have := List.length_filter_le (geB bids j) (rng 0 j)
    rw [rng_len] at this
    omega
  have l2 : ((rng ((j : Int) + 1) (bids.length - (j + 1))).filter (gtB bids j)).length ≤ 100000 := by
    have := List.length_filter_le (gtB bids j) (rng ((j : Int) + 1) (bids.length - (j + 1)))
    rw [rng_len] at this
    omega
  have l3 : (rng ((j : Int) + 1) (bids.length - (j + 1))).length ≤ 10000 := by rw [rng_len]; omega
  show Run K [] _ [.da (.tup (intsD bids)), .da (.int (j : Int)), .un, .un] _ _ _
  refine q_set (d := .lst (((rng 0 j).filter (geB bids j)).map id)) (ed_lcIf (f := id) rfl (wk_r1 (eg_var rfl) (by omega)) (by rw [rng_len]; omega) (fun d hd => ?_) fun d hd _ => eg_var rfl) ?_
  · obtain ⟨i, hi, rfl⟩ := List.mem_map.mp hd
    have hi : i < j := List.mem_range.mp hi
    rw [show (0 + (i : Int)) = (i : Int) by omega]
    refine et_eq (et_tst1 (ed_geI (ix_ints (i := i) (by omega) (eg_var rfl) (eg_var rfl)) (ix_ints hj (eg_var rfl) (eg_var rfl)))) ?_
    show _ = decide _
    rw [Int.toNat_natCast]
  · refine run_ret (eg_eq (ed_addI (ed_cb (ea_1 (eg_var rfl)) (rc_len (n := ((rng 0 j).filter (geB bids j)).length) (d := .lst (((rng 0 j).filter (geB bids j)).map id)) (by show some _ = some _; rw [List.length_map]) l1 rfl)) (ed_cb (ea_1 (ed_lcIf (f := id) (b := gtB bids j) (ds := rng ((j : Int) + 1) (bids.length - (j + 1))) rfl (wk_imp (wk_r2 (m := (j : Int) + 1) (n := (bids.length : Int)) (ed_addI (eg_var rfl) eg_int) (ed_cb (ea_1 (eg_var rfl)) (rc_len (n := bids.length) (d := .tup (intsD bids)) (by show some _ = some _; rw [intsD_len]) (by omega) rfl)) (by omega) (by omega)) fun ds e => by rw [e, hz]) l3 (fun d hd => ?_) fun d hd _ => eg_var rfl)) (rc_len (n := ((rng ((j : Int) + 1) (bids.length - (j + 1))).filter (gtB bids j)).length) (d := .lst (((rng ((j : Int) + 1) (bids.length - (j + 1))).filter (gtB bids j)).map id)) (by show some _ = some _; rw [List.length_map]) l2 rfl))) ?_)
    · obtain ⟨i, hi, rfl⟩ := List.mem_map.mp hd
      have hi : i < bids.length - (j + 1) := List.mem_range.mp hi
      rw [show ((j : Int) + 1 + (i : Int)) = ((j + 1 + i : Nat) : Int) by omega]
      refine et_eq (et_tst1 (ed_gtI (ix_ints (i := j + 1 + i) (by omega) (eg_var rfl) (eg_var rfl)) (ix_ints hj (eg_var rfl) (eg_var rfl)))) ?_
      show _ = decide _
      rw [Int.toNat_natCast]
    · show Dt.int _ = Dt.int ((aheadN bids j : Nat) : Int)
      unfold aheadN
      rw [Int.natCast_add]
end
end Sb

set_option Elab.async false
set_option linter.all false
set_option maxRecDepth 100000
set_option autoImplicit false
namespace Sb
open PySem PySem.Spec PyProof.Rows L2 TL
/-! ### the first row that holds, as the law has it -/
def rowLB (ws : List (Str × Int)) : Dt → Bool
  | .tup [c, _, _] => cev ws c
  | _ => false
theorem first_atL (ws : List (Str × Int)) : ∀ {rows : List Row}, (∃ r ∈ rows, r.c = none) → ∃ r ∈ rows, firstD ws rows = r.d ∧ atI (((rwsD rows).filter (rowLB ws)).map id) 0 = some r.dl
  | [], h => by obtain ⟨r, hr, _⟩ := h; cases hr
  | a :: rows, h => by
    have e2 : rowLB ws a.dl = oev ws a.c := cev_d ws a.c
    have e1 : rwsD (a :: rows) = a.dl :: rwsD rows := rfl
    cases e : oev ws a.c with
    | true =>
      refine ⟨a, by simp, ?_, ?_⟩
      · unfold firstD
        rw [List.find?_cons_of_pos (p := fun r : Row => oev ws r.c) e]
      · rw [e1, List.filter_cons, e2, e]
        exact at0
    | false =>
      have h' : ∃ r ∈ rows, r.c = none := by
        obtain ⟨r, hr, n⟩ := h
        rcases List.mem_cons.mp hr with z | z
        · rw [← z, n] at e
          cases e
        · exact ⟨r, z, n⟩
      obtain ⟨r, hr, q1, q2⟩ := first_atL ws h'
      refine ⟨r, by simp [hr], ?_, ?_⟩
      · unfold firstD
        rw [List.find?_cons_of_neg (p := fun r : Row => oev ws r.c) (by show ¬ oev ws a.c = true; rw [e]; exact Bool.false_ne_true)]
        exact q1
      · rw [e1, List.filter_cons, e2, e]
        exact q2
/-- the one place before which k stand -/
theorem ahead_one {bids : List Int} {k : Nat} (hk : k < bids.length) : ∃ j, j < bids.length ∧ (placesOf bids bids.length)[k]? = some (j : Int) ∧ (List.range bids.length).filter (fun i => decide (aheadN bids i = k)) = [j] := by
  have hl : k < (placesOf bids bids.length).length := by rw [placesOf_len]; exact hk
  obtain ⟨j, hj, ej⟩ := placesOf_mem (List.getElem_mem hl)
  have hat : (placesOf bids bids.length)[k]? = some (j : Int) := by rw [List.getElem?_eq_getElem hl, ej]
  have nd : (placesOf bids bids.length).Nodup := by
    rw [placesOf_eq]
    exact (List.mergeSort_perm _ _).nodup_iff.mpr (List.Pairwise.map _ (fun a b ne e => ne (Int.ofNat.inj e)) List.nodup_range)
  have key : ∀ i, i < bids.length → (aheadN bids i = k ↔ i = j) := fun i hi => by
    have hi' := places_at bids (n := bids.length) hi
    rw [← ahead_eq bids hi] at hi'
    constructor
    · intro e
      rw [e, hat] at hi'
      have := Option.some.inj hi'
      omega
    · intro e
      subst e
      have h1 : aheadN bids i < (placesOf bids bids.length).length := (List.getElem?_eq_some_iff.mp hi').1
      exact (List.getElem?_inj h1 nd).mp (hi'.trans hat.symm)
  refine ⟨j, hj, hat, ?_⟩
  have hf : (List.range bids.length).filter (fun i => decide (aheadN bids i = k)) = (List.range bids.length).filter (fun i => i == j) := List.filter_congr fun i hi => by
    have := key i (List.mem_range.mp hi)
    by_cases h : i = j
    · rw [decide_eq_true (this.mpr h), h]; simp
    · rw [decide_eq_false fun z => h (this.mp z)]
      simp [h]
  rw [hf]
  have hc : (List.range bids.length).count j = 1 := by
    rw [List.nodup_range.count]
    exact if_pos (List.mem_range.mpr hj)
  rw [List.filter_beq, hc]
  rfl
section
variable {P : Program} {w : World} {K : KX} {mg : Str → Option Value} {base : Heap} {aS aO C : Addr}
abbrev sp_met (K : KX) : Sp := spX K (fun a : HoIn => [oc a.c, .dic (wsD a.ws)]) HoIn.ok (fun a e => e = .bl (oev a.ws a.c))
end
end Sb

set_option Elab.async false
set_option linter.all false
set_option maxRecDepth 100000
set_option autoImplicit false
namespace Sb
open PySem PySem.Spec PyProof.Rows L2 TL
section
variable {P : Program} {w : World} {K : KX} {mg : Str → Option Value} {base : Heap} {aS aO C : Addr}
def ahB (bids : List Int) (k : Nat) : Dt → Bool
  | .int i => decide (aheadN bids i.toNat = k)
  | _ => false
def seatAt (seats : List Str) : Dt → Dt
  | .int i => .str (seats.getD i.toNat sKeep)
  | _ => .non
theorem ahead_pick {seats : List Str} {bids : List Int} {k : Nat} (hl : bids.length = seats.length) (h1 : 1 ≤ k) (h2 : k ≤ seats.length) : atI (((rng 0 bids.length).filter (ahB bids (k - 1))).map (seatAt seats)) 0 = some (.str ((stand seats bids).getD (k - 1) sKeep)) := by
  obtain ⟨j, hj, hat, hf⟩ := ahead_one (bids := bids) (k := k - 1) (by omega)
  have e : (rng 0 bids.length).filter (ahB bids (k - 1)) = [Dt.int (0 + (j : Int))] := by
    unfold rng
    rw [List.filter_map]
    have : (ahB bids (k - 1) ∘ fun i : Nat => Dt.int (0 + (i : Int))) = fun i : Nat => decide (aheadN bids i = k - 1) := by
      funext i
      show decide (aheadN bids (0 + (i : Int)).toNat = k - 1) = _
      rw [show (0 + (i : Int)).toNat = i by omega]
    rw [this, hf]
    rfl
  rw [e]
  have s : (stand seats bids).getD (k - 1) sKeep = seats.getD j sKeep := by
    unfold stand
    rw [← hl, List.getD_eq_getElem?_getD, List.getElem?_map, hat]
    show seats.getD (j : Int).toNat sKeep = _
    rw [Int.toNat_natCast]
  rw [s]
  show atI [Dt.str (seats.getD (0 + (j : Int)).toNat sKeep)] 0 = _
  rw [show (0 + (j : Int)).toNat = j by omega]
  rfl
abbrev sp_end (K : KX) : Sp := spX K (fun a : WosIn => [planD a.seats a.ls a.rows, .tup (intsD a.bids)]) WosIn.ok (fun a e => e = outG a.seats a.ls a.rows a.bids)
end
end Sb

set_option Elab.async false
set_option linter.all false
set_option maxRecDepth 100000
set_option autoImplicit false
namespace Sb
open PySem PySem.Spec PyProof.Rows L2
/-! ### the law's own call, where one def makes lambdas: its code object at c, its table at T, empty at first -/
section
variable {P : Program} {w : World} {K : PySem.W.Frag} {mg mb : Str → Option Value} {k : Nat} {fa a c T : Addr} {fd : FuncData} {x : Str} {sp : Sp} {s1 : Shared} {vs : List Value} {ns : List Int}
/-- what stands in a heap, the script and the table aside, stands in its ground -/
theorem ground_get {h : Heap} {H : Hp} (hA : ∀ b, H b ≠ none → b = a ∨ b = T) (ha : h.get? a = some { cls := .type "list", data := .seq vs.toArray }) (hT : h.get? T = some { cls := .none, data := .fields #[] }) {b : Addr} {o : Obj} (e : h.get? b = some o)
    (n1 : ∀ ws m, o.data ≠ .seq ws m) (n2 : o.data ≠ .fields #[]) : (hidT h H).get? b = some o := by
  refine hidT_get e ?_
  cases z : H b with
  | none => rfl
  | some u =>
    rcases hA b (by rw [z]; simp) with q | q
    · rw [q, ha] at e
      cases e
      exact (n1 _ _ rfl).elim
    · rw [q, hT] at e
      cases e
      exact (n2 rfl).elim
theorem lawGT (KIn : K.In s1.heap) (hns : s1.heap.Ns mainGlobals mg) (hb : s1.heap.Ns builtinsNs mb) (hbb : ∀ x : Str, x ≠ "__name__" → mb x = bootBuiltins x) (lim : s1.heap.NoLimit) (gens : s1.gens = #[])
    (hT : s1.heap.get? T = some { cls := .none, data := .fields #[] }) (nT : K.lookup T = none) (hC : PySem.W.CodeHd s1.heap c T)
    (hbm : ∃ (bm : Addr) (ob : Obj), mg "__builtins__" = some (.ref bm) ∧ bm ≠ builtinsNs ∧ s1.heap.get? bm = some ob ∧ ob.cls = .type "module" ∧ ob.dict = some builtinsNs ∧ ob.data = .plain)
    (ha : s1.heap.get? a = some { cls := .type "list", data := .seq vs.toArray }) (hi : IntsAre vs ns) (hl : ns.length ≤ sizeLine) (room : Room k callerA)
    (F : ∀ base : Heap, K.In base → base.Ns mainGlobals mg → LamX.TabB base mg c T → FnG P w K mg base k fa fd [x] sp)
    (bnd : ∀ (s : Shared) (u : Value), BindsTo s fd ⟨[u], []⟩ [(x, u)])
    (want : ∀ H : Hp, H T = some (.tbl #[]) → SqL K H a (ns.map V.int) → sp [.ref a] H (fun v _ => v = .bl true) fun _ _ _ => False) :
    codeAny (model P w) callerA (.call (.ref fa) ⟨[.ref a], []⟩) (fun r s2 => r = .ok (.ret (.bool true)) ∧ OldK s1.heap s2.heap ∧ s2.os = s1.os ∧ AllBare s2.gens) s1 := by
  have rv := vals_ints hi
  have lenV := hi.length
  have aT : a ≠ T := fun z => by
    rw [z, hT] at ha
    cases ha
  have main : ∀ H : Hp, H T = some (.tbl #[]) → (∀ b, b ≠ T → H b = none ∨ ∃ o xs, H b = some (.frz o (.lst xs))) → SqL K H a (ns.map V.int) → HOk P w H s1.heap → (∀ b, H b ≠ none → b = a ∨ b = T) → (H a ≠ none → K.lookup a = none) →
      codeAny (model P w) callerA (.call (.ref fa) ⟨[.ref a], []⟩) (fun r s2 => r = .ok (.ret (.bool true)) ∧ OldK s1.heap s2.heap ∧ s2.os = s1.os ∧ AllBare s2.gens) s1 := by
    intro H hHT hO hS hok hA hK
    have gg : ∀ {b : Addr} {o : Obj}, s1.heap.get? b = some o → (∀ ws m, o.data ≠ .seq ws m) → o.data ≠ .fields #[] → (hidT s1.heap H).get? b = some o := fun e n1 n2 => ground_get hA ha hT e n1 n2
    have ns2 : ∀ {b : Addr} {m : Str → Option Value}, s1.heap.Ns b m → (hidT s1.heap H).Ns b m := by
      rintro b m ⟨o, es, ep, q, d, r⟩
      exact ⟨o, es, ep, gg q (fun ws m z => by rw [d] at z; cases z) (fun z => by rw [d] at z; cases z), d, r⟩
    have kb : K.In (hidT s1.heap H) := by
      intro b o q
      refine hidT_get (KIn b o q) ?_
      cases z : H b with
      | none => rfl
      | some u =>
        rcases hA b (by rw [z]; simp) with e | e
        · rw [e] at z q
          rw [hK (by rw [z]; simp)] at q
          cases q
        · rw [e, nT] at q
          cases q
    have lim2 : (hidT s1.heap H).NoLimit := by
      obtain ⟨mc, q1, q2⟩ := lim
      exact ⟨mc, ns2 q1, q2⟩
    have tb : LamX.TabB (hidT s1.heap H) mg c T := by
      refine ⟨?_, ?_, fun z => ?_⟩
      · obtain ⟨o, us, file, tf, flags, tg, inF, text, tt, e1, r1, r2, r3, rest⟩ := hC
        exact ⟨o, us, file, tf, flags, tg, inF, text, tt, gg e1 (fun ws m z => by rw [r2] at z; cases z) (fun z => by rw [r2] at z; cases z; simp at r3), r1, r2, r3, rest⟩
      · obtain ⟨bm, ob, b1, b2, b3, b4, b5, b6⟩ := hbm
        have nG : bm ≠ mainGlobals := fun z => by
          obtain ⟨o, es, ep, e, d, _⟩ := hns
          rw [z, e] at b3
          cases b3
          rw [d] at b6
          cases b6
        have nP : bm ≠ T := fun z => by
          rw [z, hT] at b3
          cases b3
          cases b6
        exact ⟨bm, ob, b1, b2, nG, nP, gg b3 (fun ws m z => by rw [b6] at z; cases z) (fun z => by rw [b6] at z; cases z), b4, b5, b6⟩
      · obtain ⟨o, es, ep, e, d, _⟩ := hns
        rw [z, hT] at e
        cases e
        cases d
    have e0 : Env0 P w K mg (hidT s1.heap H) callerA [] s1 H :=
      { frames := rfl
        mod := ⟨kb, ns2 hns, ⟨mb, ns2 hb, hbb⟩, lim2⟩
        bs := fun b o q => of_hidT q
        bsz := Nat.le_of_eq (hidT_size _ _)
        funs := trivial
        frf := fun b hb => absurd (show b ∈ ([] : List Addr) from hb) (by simp)
        hok := hok
        bare := .of_eq gens }
    refine codeAny_mono ((F _ kb (ns2 hns) tb).go callerA [] s1 H ⟨[.ref a], []⟩ [.ref a] [.ref a] _ _ rfl room e0 (bnd s1 (.ref a)) (.cons rfl .nil) (want H hHT hS)) fun r s2 h => ?_
    cases r with
    | error z => exact (show False from h).elim
    | ok fl =>
      cases fl with
      | next => exact (show False from h).elim
      | brk => exact (show False from h).elim
      | cont => exact (show False from h).elim
      | ret u =>
        obtain ⟨v, H2, os, bare, un, hok2, rel, q⟩ := h
        have q1 : v = .bl true := q
        subst q1
        obtain rfl : u = Value.bool true := rel
        have old : ∀ b o, b ≠ T → s1.heap.get? b = some o → s2.heap.get? b = some o := fun b o nb z => by
          rcases hO b nb with y | ⟨ob, xs, n⟩
          · exact un.keep b o z y (fun m => absurd (show b ∈ ([] : List Addr) from m) (by simp)) (by simp)
          · have n2 := un.frzs b ob _ n
            have i1 := (hok b _ n).1
            have i2 := (hok2 b _ n2).1
            rw [z] at i1
            cases i1
            exact i2
        obtain ⟨more, z⟩ := un.tbls T #[] hHT
        have hm := hok2 T _ z
        refine ⟨rfl, ⟨fun b o e => ?_, fun b o e => ?_⟩, os, bare⟩
        · by_cases hb : b = T
          · rw [hb] at e ⊢
            rw [hT] at e
            cases e
            exact .inr (.inl ⟨(hC.tab hT).isCodeTable, rfl, #[], more, rfl, hm⟩)
          · exact .inl (old b o hb e)
        · by_cases hb : b = T
          · rw [hb]
            exact ⟨_, hm⟩
          · exact ⟨o, old b o hb e⟩
  cases hk : K.lookup a with
  | some o =>
    have q := KIn a o hk
    rw [ha] at q
    cases q
    refine main (fun b => if b = T then some (.tbl #[]) else none) (if_pos rfl) (fun b nb => .inl (if_neg nb)) (.inr ⟨_, vs.toArray, _, hk, rfl, rfl, rfl, by rw [List.size_toArray, lenV]; exact hl, by simpa using rv⟩) (fun b u z => ?_) (fun b z => ?_) fun z => absurd (if_neg aT) z
    · by_cases hb : b = T
      · have z2 := (if_pos hb).symm.trans z
        cases z2
        rw [hb]
        exact hT
      · have z2 := (if_neg hb).symm.trans z
        cases z2
    · by_cases hb : b = T
      · exact .inr hb
      · exact absurd (if_neg hb) z
  | none =>
    refine main (fun b => if b = T then some (.tbl #[]) else if b = a then some (.frz { cls := .type "list", data := .seq vs.toArray } (.lst (ns.map V.int))) else none) (if_pos rfl) (fun b nb => ?_) (.inl (.inr ⟨_, (if_neg aT).trans (if_pos rfl)⟩)) (fun b u z => ?_) (fun b z => ?_) fun _ => hk
    · by_cases hb : b = a
      · exact .inr ⟨_, _, (if_neg nb).trans (if_pos hb)⟩
      · exact .inl ((if_neg nb).trans (if_neg hb))
    · by_cases hb : b = T
      · have z2 := (if_pos hb).symm.trans z
        cases z2
        rw [hb]
        exact hT
      · have z1 := (if_neg hb).symm.trans z
        by_cases hb2 : b = a
        · have z2 := (if_pos hb2).symm.trans z1
          cases z2
          rw [hb2]
          exact ⟨ha, by rw [List.length_map]; exact hl, vs, _, rv, ha⟩
        · have z2 := (if_neg hb2).symm.trans z1
          cases z2
    · by_cases hb : b = T
      · exact .inr hb
      · by_cases hb2 : b = a
        · exact .inl hb2
        · exact absurd ((if_neg hb).trans (if_neg hb2)) z
end
theorem walkGT {l : PySem.W.OpenLaw} {n k : Nat} {q : Program} {loose : List Str} {XP : (Str → Option Value) → Heap → Prop} {YP : World → Heap → Prop} {d : DefRec} {K : Params → PySem.W.Frag} {sp : KX → Sp} {x lam : Str} (hn : l.most = some n) (hn2 : n ≤ sizeLine) (hdf : d.params.defaults = []) (room : Room k callerA)
    (hY : ∀ (w : World) (h : Heap), YP w h → (K w.params).In h)
    (F : ∀ (w : World) (mg : Str → Option Value) (fa : Addr) (h : Heap), YP w h → (K w.params).In h → h.Ns mainGlobals mg → mg d.name = some (.ref fa) →
      ∃ (fd : FuncData) (c T : Addr), h.get? T = some { cls := .none, data := .fields #[] } ∧ (K w.params).lookup T = none ∧ PySem.W.CodeHd h c T ∧ (∀ (s : Shared) (u : Value), BindsTo s fd ⟨[u], []⟩ [(x, u)]) ∧
        ∀ base : Heap, (K w.params).In base → base.Ns mainGlobals mg → LamX.TabB base mg c T → FnG l.prog w (K w.params) mg base k fa fd [x] (sp ⟨K w.params, [(T, lam)]⟩))
    (want : ∀ (K : KX) (H : Hp) (a : Addr) (ns : List Int), ns.length ≤ n → Tb K H → SqL K H a (ns.map V.int) → sp K [.ref a] H (fun v _ => v = .bl true) fun _ _ _ => False) :
    PySem.W.WalkO q loose XP YP l.row.toRowW d [] (fun f vs => PySem.call f vs) := by
  refine Att.attach_call hn hdf fun w s0 s1 mg mb fa o pm cd doc a vs ns Gr Y ho hd hcd hmg hobj hints hlen hg => ?_
  have KIn := hY w _ Y
  obtain ⟨fd, c, T, h1, h2, h3, hb, hF⟩ := F w mg fa _ Y KIn Gr.T.g hmg
  refine lawGT (c := c) (T := T) KIn Gr.T.g Gr.T.b Gr.T.builtins Gr.T.nolimit hg h1 h2 h3 Gr.T.bmain hobj hints (Nat.le_trans hlen hn2) room hF hb fun H hH hS => ?_
  refine want ⟨K w.params, [(T, lam)]⟩ H a ns hlen (fun p hp => ?_) hS
  rw [List.mem_singleton.mp hp]
  exact LamX.TabS.nil hH
end Sb

set_option Elab.async false
set_option linter.all false
set_option maxRecDepth 100000
set_option autoImplicit false
namespace Sb
open PySem PySem.Spec PyProof.Rows L2 TL
abbrev s_Rule_rows : Stmt := inClass (top 31) 4
abbrev N_Rule_rows : List Str := ["self"]
abbrev A_Rule_rows : List Str := ["self"]
theorem sc_Rule_rows : FnScope N_Rule_rows A_Rule_rows (defScope s_Rule_rows) :=
  ⟨rfl, rfl, rfl, by decide +kernel, rfl, by decide +kernel, by decide +kernel⟩
abbrev s_Rule___len__ : Stmt := inClass (top 31) 7
abbrev N_Rule___len__ : List Str := ["self"]
abbrev A_Rule___len__ : List Str := ["self"]
theorem sc_Rule___len__ : FnScope N_Rule___len__ A_Rule___len__ (defScope s_Rule___len__) :=
  ⟨rfl, rfl, rfl, by decide +kernel, rfl, by decide +kernel, by decide +kernel⟩
abbrev s_Rule___str__ : Stmt := inClass (top 31) 8
abbrev N_Rule___str__ : List Str := ["self"]
abbrev A_Rule___str__ : List Str := ["self"]
theorem sc_Rule___str__ : FnScope N_Rule___str__ A_Rule___str__ (defScope s_Rule___str__) :=
  ⟨rfl, rfl, rfl, by decide +kernel, rfl, by decide +kernel, by decide +kernel⟩
abbrev s_Rule___getitem__ : Stmt := inClass (top 31) 5
abbrev N_Rule___getitem__ : List Str := ["self", "at", "name", "term"]
abbrev A_Rule___getitem__ : List Str := ["self", "at"]
theorem sc_Rule___getitem__ : FnScope N_Rule___getitem__ A_Rule___getitem__ (defScope s_Rule___getitem__) :=
  ⟨rfl, rfl, rfl, by decide +kernel, rfl, by decide +kernel, by decide +kernel⟩
/-! ### all signs are plain -/
def Asc (x : Str) : Prop := ∀ c ∈ cs x, c < 200
theorem asc_app {x y : Str} (h1 : Asc x) (h2 : Asc y) : Asc (x ++ y) := fun c hc => by
  rw [cs_app] at hc
  rcases List.mem_append.mp hc with z | z
  · exact h1 c z
  · exact h2 c z
theorem asc_jn {ws : List Str} (h : ∀ x ∈ ws, Asc x) : Asc (jn ws) := fun c hc => by
  rw [cs_jn] at hc
  rcases joinL_mem hc with z | ⟨p, hp, z⟩
  · omega
  · obtain ⟨x, hx, rfl⟩ := List.mem_map.mp hp
    exact h x hx c z
theorem asc_dec {x : Str} (h : (cs x).all (fun c => decide (c < 200)) = true) : Asc x := fun c hc => of_decide_eq_true (List.all_eq_true.mp h c hc)
theorem asc_name {x : Str} (h : NameOk x) : Asc x := fun c hc => by
  rcases h.all c hc with z | z
  · unfold isLet at z; omega
  · unfold isDig at z; omega
theorem asc_num (n : Nat) : Asc (num n) := fun c hc => by
  have z := num_dig n c hc
  unfold isDig at z; omega
theorem Pt.asc {ns : List Str} (hn : NamesOk ns) {p : Pt} (h : p.ok ns) : Asc p.txt := by
  cases p with
  | nm x => exact asc_name (hn x h)
  | nu n => exact asc_num n
theorem Term.asc {ns : List Str} (hn : NamesOk ns) {t : Term} (h : t.ok ns) : Asc t.txt := asc_jn fun x hx => by
  unfold Term.ws at hx
  rcases List.mem_cons.mp hx with e | hx
  · rw [e]
    unfold Term.ord
    cases t.hi
    · exact asc_dec (by decide +kernel)
    · exact asc_dec (by decide +kernel)
  rcases List.mem_cons.mp hx with e | hx
  · rw [e]; exact asc_num _
  · obtain ⟨p, hp, rfl⟩ := List.mem_map.mp hx
    exact Pt.asc hn (h.ps p hp)
theorem Deed.asc {seats ns : List Str} (hs : NamesOk seats) (hn : NamesOk ns) {d : Deed} (h : d.ok seats ns) : Asc d.txt := asc_jn fun x hx => by
  cases d with
  | keep =>
    have : x = sKeep := by simpa [Deed.ws] using hx
    subst this
    exact asc_dec (by decide +kernel)
  | sell w p =>
    simp only [Deed.ws, List.mem_cons, List.not_mem_nil, or_false] at hx
    rcases hx with rfl | rfl | rfl | rfl
    · exact asc_dec (by decide +kernel)
    · have hw : w.ok seats := h.1
      cases w with
      | seat x => exact asc_name (hs x hw)
      | place k => exact asc_num k
    · exact asc_dec (by decide +kernel)
    · exact Pt.asc hn h.2
theorem Cond.asc {ns : List Str} (hn : NamesOk ns) {c : Cond} (h : c.ok ns) : Asc c.txt := asc_jn fun x hx => by
  unfold Cond.ws at hx
  simp only [List.mem_cons, List.not_mem_nil, or_false] at hx
  rcases hx with rfl | rfl | rfl | rfl
  · exact asc_dec (by decide +kernel)
  · exact Pt.asc hn h.1
  · unfold Cond.sg
    cases c.st
    · exact asc_dec (by decide +kernel)
    · exact asc_dec (by decide +kernel)
  · exact Pt.asc hn h.2
theorem Row.asc {seats ns : List Str} (hs : NamesOk seats) (hn : NamesOk ns) {r : Row} (h : r.ok seats ns) : Asc r.txt := by
  obtain ⟨oc, d⟩ := r
  cases oc with
  | none => exact Deed.asc hs hn h.1
  | some c => exact asc_app (asc_app (Cond.asc hn (h.2 c rfl)) (asc_dec (by decide +kernel))) (Deed.asc hs hn h.1)
theorem joinL_memS {s : List Nat} {d : Nat} : ∀ {ps : List (List Nat)}, d ∈ joinL s ps → d ∈ s ∨ ∃ p ∈ ps, d ∈ p
  | [], h => by cases h
  | [p], h => .inr ⟨p, by simp, h⟩
  | p :: q :: ps, h => by
    have h' : d ∈ p ++ (s ++ joinL s (q :: ps)) := by
      first
        | exact h
        | (simp only [joinL, List.append_assoc] at h; exact h)
    rcases List.mem_append.mp h' with z | z
    · exact .inr ⟨p, by simp, z⟩
    · rcases List.mem_append.mp z with z | z
      · exact .inl z
      · rcases joinL_memS z with z | ⟨r, hr, z⟩
        · exact .inl z
        · exact .inr ⟨r, List.mem_cons_of_mem _ hr, z⟩
theorem plan_asc {seats : List Str} {ls : List Ln} {rows : List Row} (h : PlanOk seats ls rows) : (∀ l ∈ ls, Asc l.t.txt) ∧ (∀ r ∈ rows, Asc r.txt) ∧ Asc (Txt.join sNl (textsL seats ls rows)) := by
  have hl : ∀ l ∈ ls, Asc l.t.txt := fun l hl => by
    obtain ⟨ns, hn, ht⟩ := line_in h.s h.l hl
    exact Term.asc hn ht
  have hr : ∀ r ∈ rows, Asc r.txt := fun r hr => Row.asc h.s.ok (names_ok h.s h.l) (h.r.ok r hr)
  refine ⟨hl, hr, fun c hc => ?_⟩
  have e := tl_join sNl (textsL seats ls rows)
  rw [show tl sNl = [10] by decide +kernel] at e
  rw [join_eq] at hc
  have hc' : c ∈ joinL [10] ((textsL seats ls rows).map tl) := by rw [← e]; exact hc
  rcases joinL_memS hc' with z | ⟨p, hp, z⟩
  · have : c = 10 := by simpa using z
    omega
  · obtain ⟨x, hx, rfl⟩ := List.mem_map.mp hp
    have ha : Asc x := by
      rcases List.mem_cons.mp hx with q | q
      · rw [q]
        exact asc_app (asc_dec (by decide +kernel)) (asc_jn fun y hy => asc_name (h.s.ok y hy))
      · rcases List.mem_append.mp q with q | q
        · obtain ⟨l, hl', rfl⟩ := List.mem_map.mp q
          exact asc_app (asc_app (asc_name (h.l.ok l.n (by unfold nmL; exact List.mem_map_of_mem hl'))) (asc_dec (by decide +kernel))) (hl l hl')
        · obtain ⟨r, hr', rfl⟩ := List.mem_map.mp q
          exact hr r hr'
    exact ha c z
theorem okS_str {n : Nat} {x : Str} (h : Asc x) : (Dt.str x).okS n := fun c hc => Nat.lt_trans (h c hc) (by decide)
/-- seats, lines, rows as they are passed -/
def tripD (seats : List Str) (ls : List Ln) (rows : List Row) : List Dt := [.tup (strsD seats), .tup (lnD (lnS ls)), .tup (txD rows)]
theorem trip_okS {seats : List Str} {ls : List Ln} {rows : List Row} (h : PlanOk seats ls rows) : (Dt.lst (tripD seats ls rows)).okS 50 ∧ (Dt.lst (tripD seats ls rows)).wid ≤ 100000 := by
  obtain ⟨h1, h2, _⟩ := plan_asc h
  have n4 := h.s.n4
  have n8 := h.l.n8
  have n6 := h.r.n6
  constructor
  · refine ⟨by omega, ⟨by omega, okSA_all fun d hd => ?_⟩, ⟨by omega, okSA_all fun d hd => ?_⟩, ⟨by omega, okSA_all fun d hd => ?_⟩, trivial⟩
    · obtain ⟨x, hx, rfl⟩ := List.mem_map.mp hd
      exact okS_str (asc_name (h.s.ok x hx))
    · obtain ⟨q, hq, rfl⟩ := List.mem_map.mp hd
      obtain ⟨l, hl, rfl⟩ := List.mem_map.mp hq
      exact ⟨by omega, okS_str (asc_name (h.l.ok l.n (by unfold nmL; exact List.mem_map_of_mem hl))), okS_str (h1 l hl), trivial⟩
    · unfold txD at hd
      obtain ⟨x, hx, rfl⟩ := List.mem_map.mp hd
      obtain ⟨r, hr, rfl⟩ := List.mem_map.mp hx
      exact okS_str (h2 r hr)
  · have w1 : widA (strsD seats) ≤ seats.length * (82 + 2) := by
      have := widA_all (b := 82) (ds := strsD seats) fun d hd => by
        obtain ⟨x, hx, rfl⟩ := List.mem_map.mp hd
        have := (h.s.ok x hx).len.2
        show 10 * x.length + 2 ≤ 82
        omega
      rw [strsD_len] at this
      exact this
    have w2 : widA (lnD (lnS ls)) ≤ ls.length * (1771 + 2) := by
      have := widA_all (b := 1771) (ds := lnD (lnS ls)) fun d hd => by
        obtain ⟨q, hq, rfl⟩ := List.mem_map.mp hd
        obtain ⟨l, hl, rfl⟩ := List.mem_map.mp hq
        obtain ⟨t1, t2⟩ := term_len h.s h.l hl
        show (10 * l.n.length + 2 + 2 + (10 * l.t.txt.length + 2 + 2 + 0)) + 3 ≤ 1771
        omega
      rw [lnD_len, lnS_len] at this
      exact this
    have w3 : widA (txD rows) ≤ rows.length * (2002 + 2) := by
      have := widA_all (b := 2002) (ds := txD rows) fun d hd => by
        unfold txD at hd
        obtain ⟨x, hx, rfl⟩ := List.mem_map.mp hd
        obtain ⟨r, hr, rfl⟩ := List.mem_map.mp hx
        have := row_len h.s.ok (by omega) (names_ok h.s h.l) (h.r.ok r hr)
        show 10 * r.txt.length + 2 ≤ 2002
        omega
      unfold txD at this
      rw [strsD_len, List.length_map] at this
      exact this
    show (widA (strsD seats) + 3 + 2 + (widA (lnD (lnS ls)) + 3 + 2 + (widA (txD rows) + 3 + 2 + 0))) + 2 ≤ 100000
    omega
theorem text_len2 {seats : List Str} {ls : List Ln} {rows : List Row} (h : PlanOk seats ls rows) : (Txt.join sNl (textsL seats ls rows)).length ≤ 4000 := by
  have e := tl_join sNl (textsL seats ls rows)
  rw [show tl sNl = [10] by decide +kernel] at e
  have hb := joinL_lenB (s := 10) (b := 200) (ps := (textsL seats ls rows).map tl) fun p hp => by
    obtain ⟨x, hx, rfl⟩ := List.mem_map.mp hp
    have := texts_len h.s h.l h.r x hx
    rw [len_cs] at this
    exact this
  rw [List.length_map] at hb
  have hl : (textsL seats ls rows).length = rows.length + ls.length + 1 := by
    unfold textsL
    rw [List.length_cons, List.length_append, List.length_map, List.length_map]
    omega
  have h6 := h.r.n6
  have h8 := h.l.n8
  rw [hl] at hb
  rw [len_cs, join_eq]
  have : (tl (Str.join sNl (textsL seats ls rows))).length ≤ 4000 := by
    rw [e]
    omega
  exact this
section
variable {P : Program} {w : World} {K : KX} {mg : Str → Option Value} {base : Heap} {aS aO C : Addr}
abbrev sp_rowsL (K : KX) (C : Addr) : Sp := spX K (fun a : TextInL => [Dt.obj C (ruleL a.seats a.ls a.rows)]) (fun _ => True) (fun a e => e = .tup (txD a.rows))
theorem ok_Rule_rowsL {f : Addr} {fd : FuncData} (F : Fun K "rows" "Rule.rows" s_Rule_rows f fd) (R : RC K C) : FnOk P w K mg base CX0 1 f fd A_Rule_rows (sp_rowsL K C) := by
  refine fn_x F sc_Rule_rows (fun _ => rfl) fun cdv A outer s H E hr => ⟨_, (pss_one (ps_ret (pe_ix (ix_anyK (K := K)) (pe_fld (pv 0) rfl) pe_int (fun _ _ => rfl)))), fun a ha => ?_⟩
  exact run_ret (ed_ixT (eg_fld (eg_var rfl) R.cls R.n_passed rfl) eg_int rfl)
abbrev sp_len (K : KX) (C : Addr) : Sp := spX K (fun a : TextInL => [Dt.obj C (ruleL a.seats a.ls a.rows)]) (fun a => a.rows.length ≤ 6) (fun a e => e = .int (a.rows.length : Int))
theorem ok_Rule_len {f : Addr} {fd : FuncData} (F : Fun K "__len__" "Rule.__len__" s_Rule___len__ f fd) (R : RC K C) (B : Bf K mg aS aO) (p_rows : PrX P w K mg base 1 C "rows" (sp_rowsL K C)) : FnOk P w K mg base CX0 3 f fd A_Rule___len__ (sp_len K C) := by
  refine fn_x F sc_Rule___len__ (fun _ => rfl) fun cdv A outer s H E hr => ⟨_, (pss_one (ps_ret (pe_callB (call_lenK (K := K)) (by rfl) B.n_len (by decide +kernel) (pa_cons (pe_propX p_rows hr (by decide) (pv 0)) pa_nil)))), fun a ha => ?_⟩
  have h6 : a.rows.length ≤ 6 := ha
  exact run_ret (ed_cb (ea_1 (eg_propX (pz := (· = .tup (txD a.rows))) a (eg_var rfl) rfl trivial fun _ e => e)) (rc_len (n := a.rows.length) (d := .tup (txD a.rows)) (by show some _ = some _; unfold txD; rw [strsD_len, List.length_map]) (by omega) rfl))
abbrev sp_str (K : KX) (C : Addr) : Sp := spX K (fun a : TextInL => [Dt.obj C (ruleL a.seats a.ls a.rows)]) (fun _ => True) (fun a e => e = .str (Txt.join sNl (textsL a.seats a.ls a.rows)))
theorem ok_Rule_str {f : Addr} {fd : FuncData} (F : Fun K "__str__" "Rule.__str__" s_Rule___str__ f fd) (R : RC K C) (B : Bf K mg aS aO) : FnOk P w K mg base CX0 1 f fd A_Rule___str__ (sp_str K C) := by
  refine fn_x F sc_Rule___str__ (fun _ => rfl) fun cdv A outer s H E hr => ⟨_, (pss_one (ps_ret (pe_callTy call_strA (by rfl) B.n_str (by decide +kernel) (pa_cons (pe_fld (pv 0) rfl) pa_nil)))), fun a ha => ?_⟩
  exact run_ret (ed_cb (ea_1 (eg_fld (eg_var rfl) R.cls R.n_text rfl)) (rc_strS rfl))
structure ItemIn where
  seats : List Str
  ls : List Ln
  rows : List Row
  l : Ln
structure ItemIn.ok (a : ItemIn) : Prop where
  s : SeatsOk a.seats
  ln : LinesOk a.seats a.ls
  m : a.l ∈ a.ls
abbrev sp_item (K : KX) (C : Addr) : Sp := spX K (fun a : ItemIn => [Dt.obj C (ruleL a.seats a.ls a.rows), .str a.l.n]) ItemIn.ok (fun a e => e = .str a.l.t.txt)
theorem line_inj {seats : List Str} {ls : List Ln} (h : LinesOk seats ls) {i j : Nat} {a b : Ln} (ha : ls[i]? = some a) (hb : ls[j]? = some b) (e : a.n = b.n) : i = j := by
  have nd : (nmL ls).Nodup := (List.nodup_append.mp h.nd).2.1
  have ea : (nmL ls)[i]? = some a.n := by unfold nmL; rw [List.getElem?_map, ha]; rfl
  have eb : (nmL ls)[j]? = some a.n := by unfold nmL; rw [List.getElem?_map, hb, e]; rfl
  exact nodup_ix (N := nmL ls) nd ea eb
theorem ok_Rule_getitem {f : Addr} {fd : FuncData} (F : Fun K "__getitem__" "Rule.__getitem__" s_Rule___getitem__ f fd) (R : RC K C) (B : Bf K mg aS aO) (p_lines : PrX P w K mg base 1 C "lines" (sp_linesL K C)) : FnOk P w K mg base CX0 3 f fd A_Rule___getitem__ (sp_item K C) := by
  refine fn_x F sc_Rule___getitem__ (fun _ => rfl) fun cdv A outer s H E hr => ⟨_, (pss_cons (ps_if (pt_val (pe_callB (call_isiQ (K := K)) (by rfl) B.n_isinstance (by decide +kernel) (pa_cons (pv 1) (pa_cons (pe_bltn (v := .ty "str") (by rfl) B.n_str (by decide +kernel) rfl) pa_nil)))) (pss_one (ps_for PassesOwn.never rfl (pi_anyK (K := K) (pe_propX p_lines hr (by decide) (pv 0))) (pg_tup rfl (pgs_cons (pg_name (i := 2) sc_Rule___getitem__.nd rfl (Or.inl rfl)) (pgs_cons (pg_name (i := 3) sc_Rule___getitem__.nd rfl (Or.inl rfl)) pgs_nil))) (pss_one (ps_if (pt_cmpR (op_eqK (K := K) hr.units) (pv 2) (pv 1) (nomark _)) (pss_one (ps_ret (pv 3))) pss_nil)))) pss_nil) (pss_one ps_never)), fun a ha => ?_⟩
  obtain ⟨seats, ls, rows, l⟩ := a
  have h1 : SeatsOk seats := ha.s
  have h2 : LinesOk seats ls := ha.ln
  have hm : l ∈ ls := ha.m
  obtain ⟨j, hj⟩ := List.mem_iff_getElem?.mp hm
  refine q_yes (et_B1 (eg_isi (b := true) (d := .str l.n) (eg_var rfl) rfl (by decide +kernel))) ?_
  refine run_forD (ds := lnD (lnS ls)) (fun i G => i ≤ j ∧ ∃ s2 s3, G = [.da (.obj C (ruleL seats ls rows)), .da (.str l.n), s2, s3] ∧ s2.ad = none ∧ s3.ad = none) (wk_any1 (d := .tup (lnD (lnS ls))) (eg_propX (⟨seats, ls, rows⟩ : TextInL) (eg_var rfl) rfl trivial fun _ e => e) rfl) ⟨Nat.zero_le _, .un, .un, rfl, rfl, rfl⟩ (fun i d G1 hd hI => ?_) fun G1 hI => ?_
  · obtain ⟨hij, s2, s3, rfl, a2, a3⟩ := hI
    have hd' : ∃ l', ls[i]? = some l' ∧ d = .tup [.str l'.n, .str l'.t.txt] := by
      unfold lnD lnS at hd
      rw [List.getElem?_map, List.getElem?_map] at hd
      cases q : ls[i]? with
      | none => rw [q] at hd; cases hd
      | some l' => rw [q] at hd; exact ⟨l', rfl, (Option.some.inj hd).symm⟩
    obtain ⟨l', hl', rfl⟩ := hd'
    refine ⟨[2, 3], _, gg_two rfl a2 rfl a3 (by decide) (by simp) (by simp), ?_⟩
    refine run_if (p := (· = decide (l'.n = l.n))) (et_tst1 (ed_eqS (eg_var rfl) (eg_var rfl))) (fun z => ?_) fun z => run_next ⟨?_, .da (.str l'.n), .da (.str l'.t.txt), rfl, rfl, rfl⟩
    · have e : l'.n = l.n := of_decide_eq_true z.symm
      have ij := line_inj h2 hl' hj e
      subst ij
      rw [hj] at hl'
      have el : l = l' := Option.some.inj hl'
      subst el
      exact run_ret (eg_var rfl)
    · have e : l'.n ≠ l.n := of_decide_eq_false z.symm
      have ne : i ≠ j := fun q => by
        subst q
        rw [hj] at hl'
        exact e (by rw [Option.some.inj hl'])
      omega
  · obtain ⟨hij, _⟩ := hI
    have := (List.getElem?_eq_some_iff.mp hj).1
    rw [lnD_len, lnS_len] at hij
    omega
/-! ### what the law passes -/
def pairT : Dt → Dt
  | .tup [.str n, .str o, .int k, .lst ps] => .tup [.str n, .str (jn (o :: Str.ofString (toString k) :: ps.map sideT))]
  | _ => .non
theorem pairT_dl (l : Ln) : pairT l.dl = .tup [.str l.n, .str l.t.txt] := by
  show Dt.tup [.str l.n, .str (jn (l.t.ord :: num l.t.k :: (ptsD l.t.ps).map sideT))] = _
  rw [pts_txt]
  rfl
abbrev sp_triple (K : KX) : Sp := spX K (fun a : WhIn => [planD a.seats a.ls a.rows]) (fun a => PlanOk a.seats a.ls a.rows) (fun a e => e = .tup (tripD a.seats a.ls a.rows))
end
end Sb

set_option Elab.async false
set_option linter.all false
set_option maxRecDepth 100000
set_option autoImplicit false
namespace Sb
open PySem PySem.Spec PyProof.Rows L2 TL
/-! ### values, by what stands ahead -/
theorem lookup_of_mem {x : Str} {v : Int} : ∀ {ws : List (Str × Int)}, (ws.map (·.1)).Nodup → (x, v) ∈ ws → ws.lookup x = some v
  | [], _, h => by cases h
  | (y, u) :: ws, nd, h => by
    rw [List.lookup_cons]
    have nd' : (y :: ws.map (·.1)).Nodup := nd
    obtain ⟨n1, n2⟩ := List.nodup_cons.mp nd'
    rcases List.mem_cons.mp h with z | z
    · cases z
      rw [beq_self_eq_true]
    · have ne : ¬ x = y := fun e => n1 (by rw [← e]; exact List.mem_map_of_mem (f := (·.1)) z)
      have : (x == y) = false := by simpa using ne
      rw [this]
      exact lookup_of_mem n2 z
theorem worthsL_two : ∀ (a b : List Ln) (ws : List (Str × Int)), worthsL ws (a ++ b) = worthsL (worthsL ws a) b
  | [], _, _ => rfl
  | l :: a, b, ws => worthsL_two a b (ws ++ [(l.n, l.t.val ws)])
theorem worthsL_pre : ∀ (ls : List Ln) (ws : List (Str × Int)), ∃ r, worthsL ws ls = ws ++ r
  | [], ws => ⟨[], by rw [List.append_nil]; rfl⟩
  | l :: ls, ws => by
    obtain ⟨r, e⟩ := worthsL_pre ls (ws ++ [(l.n, l.t.val ws)])
    exact ⟨(l.n, l.t.val ws) :: r, by show worthsL (ws ++ [(l.n, l.t.val ws)]) ls = _; rw [e, List.append_assoc]; rfl⟩
theorem lookup_pre {x : Str} {v : Int} {ws : List (Str × Int)} (r : List (Str × Int)) (h : ws.lookup x = some v) : (ws ++ r).lookup x = some v := by
  rw [List.lookup_append, h]
  rfl
/-- the values up to line i, and behind it -/
theorem worths_at {ls : List Ln} {i : Nat} {l : Ln} (h : ls[i]? = some l) (z : List (Str × Int)) : ∃ r, worthsL z ls = worthsL z (ls.take i) ++ (l.n, l.t.val (worthsL z (ls.take i))) :: r := by
  have e : ls = ls.take (i + 1) ++ ls.drop (i + 1) := (List.take_append_drop _ _).symm
  have e2 : ls.take (i + 1) = ls.take i ++ [l] := by rw [List.take_add_one, h]; rfl
  obtain ⟨r, hr⟩ := worthsL_pre (ls.drop (i + 1)) (worthsL z (ls.take (i + 1)))
  refine ⟨r, ?_⟩
  conv => lhs; rw [e]
  rw [worthsL_two, hr, e2, worthsL_app, List.append_assoc]
  rfl
theorem val_at {seats : List Str} {ls : List Ln} {bids : List Int} (hl : bids.length = seats.length) {i : Nat} {p : Pt} (hp : p.ok (seats ++ (nmL ls).take i)) (r : List (Str × Int)) : p.val (worthsL (seats.zip bids) (ls.take i) ++ r) = p.val (worthsL (seats.zip bids) (ls.take i)) := by
  cases p with
  | nu n => rfl
  | nm x =>
    have hk : x ∈ (worthsL (seats.zip bids) (ls.take i)).map (·.1) := by
      rw [worthsL_keys, zip_keys hl]
      unfold nmL
      rw [List.map_take]
      exact hp
    obtain ⟨v, hv⟩ := has_key hk
    show (List.lookup x _).getD 0 = (List.lookup x _).getD 0
    rw [lookup_pre r hv, hv]
theorem keys_nd {seats : List Str} {ls : List Ln} {bids : List Int} (hl : bids.length = seats.length) (h : (seats ++ nmL ls).Nodup) : ((worthsL (seats.zip bids) ls).map (·.1)).Nodup := by
  rw [worthsL_keys, zip_keys hl]
  exact h
/-! ### counting -/
theorem count_low {s : List Int} (hs : s.Pairwise (· ≤ ·)) {j : Nat} (hj : j < s.length) : s.countP (fun v => decide (v < s[j])) ≤ j ∧ j + 1 ≤ s.countP (fun v => decide (v < s[j])) + s.countP (fun v => decide (v = s[j])) := by
  have e : s = s.take j ++ s[j] :: s.drop (j + 1) := by rw [← List.drop_eq_getElem_cons hj, List.take_append_drop]
  generalize s[j] = o at e
  have hl : (s.take j).length = j := by rw [List.length_take]; omega
  generalize s.take j = a at e hl
  generalize s.drop (j + 1) = b at e
  subst e
  obtain ⟨_, p2, p3⟩ := List.pairwise_append.mp hs
  obtain ⟨p4, _⟩ := List.pairwise_cons.mp p2
  have za : ∀ v ∈ a, v ≤ o := fun v hv => p3 v hv o (by simp)
  have zb : b.countP (fun v => decide (v < o)) = 0 := List.countP_eq_zero.mpr fun v hv => by
    have := p4 v hv
    rw [decide_eq_true_eq]
    omega
  have z0 : (o :: b).countP (fun v => decide (v < o)) = 0 := by
    rw [List.countP_cons, zb, decide_eq_false (Int.lt_irrefl o)]
    rfl
  have z1 : 1 ≤ (o :: b).countP (fun v => decide (v = o)) := by
    rw [List.countP_cons, decide_eq_true rfl]
    simp
  have z2 : ∀ (a : List Int), (∀ v ∈ a, v ≤ o) → a.countP (fun v => decide (v < o)) + a.countP (fun v => decide (v = o)) = a.length := by
    intro a
    induction a with
    | nil => intro _; rfl
    | cons x a ih =>
      intro h
      have hx := h x (by simp)
      have ih := ih fun v hv => h v (by simp [hv])
      rw [List.countP_cons, List.countP_cons, List.length_cons]
      by_cases q : x = o
      · rw [decide_eq_true q, decide_eq_false (show ¬ x < o by omega)]
        simp
        omega
      · rw [decide_eq_false q, decide_eq_true (show x < o by omega)]
        simp
        omega
  have z3 := z2 a za
  have z4 : a.countP (fun v => decide (v < o)) ≤ a.length := List.countP_le_length
  rw [List.countP_append, List.countP_append, z0]
  omega
theorem count_high {s : List Int} (hs : s.Pairwise (· ≤ ·)) {j : Nat} (hj : j < s.length) : s.countP (fun v => decide (v > s[j])) < s.length - j ∧ s.length - j ≤ s.countP (fun v => decide (v > s[j])) + s.countP (fun v => decide (v = s[j])) := by
  have e : s = s.take j ++ s[j] :: s.drop (j + 1) := by rw [← List.drop_eq_getElem_cons hj, List.take_append_drop]
  generalize s[j] = o at e
  have hl : (s.take j).length = j := by rw [List.length_take]; omega
  have hm : (s.drop (j + 1)).length = s.length - (j + 1) := by rw [List.length_drop]
  generalize hn : s.length = n at *
  generalize s.take j = a at e hl
  generalize s.drop (j + 1) = b at e hm
  subst e
  obtain ⟨_, p2, p3⟩ := List.pairwise_append.mp hs
  obtain ⟨p4, _⟩ := List.pairwise_cons.mp p2
  have za : a.countP (fun v => decide (v > o)) = 0 := List.countP_eq_zero.mpr fun v hv => by
    have := p3 v hv o (by simp)
    rw [decide_eq_true_eq]
    omega
  have z0 : (o :: b).countP (fun v => decide (v > o)) = b.countP (fun v => decide (v > o)) := by
    rw [List.countP_cons, decide_eq_false (Int.lt_irrefl o)]
    rfl
  have z1 : (o :: b).countP (fun v => decide (v = o)) = b.countP (fun v => decide (v = o)) + 1 := by
    rw [List.countP_cons, decide_eq_true rfl]
    rfl
  have z2 : ∀ (b : List Int), (∀ v ∈ b, o ≤ v) → b.countP (fun v => decide (v > o)) + b.countP (fun v => decide (v = o)) = b.length := by
    intro b
    induction b with
    | nil => intro _; rfl
    | cons x b ih =>
      intro h
      have hx := h x (by simp)
      have ih := ih fun v hv => h v (by simp [hv])
      rw [List.countP_cons, List.countP_cons, List.length_cons]
      by_cases q : x = o
      · rw [decide_eq_true q, decide_eq_false (show ¬ x > o by omega)]
        simp only [Bool.false_eq_true, ↓reduceIte]
        omega
      · rw [decide_eq_false q, decide_eq_true (show x > o by omega)]
        simp only [Bool.false_eq_true, ↓reduceIte]
        omega
  have z3 := z2 b p4
  have z4 : b.countP (fun v => decide (v > o)) ≤ b.length := List.countP_le_length
  rw [List.countP_append, List.countP_append, za, z0, z1]
  omega
def bey (hi : Bool) (o v : Int) : Bool := if hi then decide (v > o) else decide (v < o)
theorem term_counts {t : Term} {ns : List Str} (h : t.ok ns) (ws : List (Str × Int)) : (t.vals ws).countP (bey t.hi (t.val ws)) < t.k ∧ t.k ≤ (t.vals ws).countP (bey t.hi (t.val ws)) + (t.vals ws).countP (fun v => decide (v = t.val ws)) := by
  have k1 := h.k1
  have kn := h.kn
  have hvl : (t.vals ws).length = t.ps.length := by unfold Term.vals; rw [List.length_map]
  have hsl : (srt (t.vals ws)).length = t.ps.length := by rw [srt_len, hvl]
  have c1 := (srt_perm (t.vals ws)).countP_eq (bey t.hi (t.val ws))
  have c2 := (srt_perm (t.vals ws)).countP_eq (fun v => decide (v = t.val ws))
  rw [← c1, ← c2]
  cases hh : t.hi with
  | true =>
    have hj : t.ps.length - t.k < (srt (t.vals ws)).length := by omega
    have e : t.val ws = (srt (t.vals ws))[t.ps.length - t.k] := by
      unfold Term.val
      rw [hh, if_pos rfl, List.getD_eq_getElem?_getD, List.getElem?_eq_getElem hj]
      rfl
    have := count_high (srt_sorted (t.vals ws)) hj
    rw [← e] at this
    have eb : (fun v => bey true (t.val ws) v) = fun v => decide (v > t.val ws) := rfl
    show (srt (t.vals ws)).countP (fun v => bey true (t.val ws) v) < t.k ∧ t.k ≤ (srt (t.vals ws)).countP (fun v => bey true (t.val ws) v) + _
    rw [eb]
    omega
  | false =>
    have hj : t.k - 1 < (srt (t.vals ws)).length := by omega
    have e : t.val ws = (srt (t.vals ws))[t.k - 1] := by
      unfold Term.val
      rw [hh, if_neg Bool.false_ne_true, List.getD_eq_getElem?_getD, List.getElem?_eq_getElem hj]
      rfl
    have := count_low (srt_sorted (t.vals ws)) hj
    rw [← e] at this
    have eb : (fun v => bey false (t.val ws) v) = fun v => decide (v < t.val ws) := rfl
    show (srt (t.vals ws)).countP (fun v => bey false (t.val ws) v) < t.k ∧ t.k ≤ (srt (t.vals ws)).countP (fun v => bey false (t.val ws) v) + _
    rw [eb]
    omega
/-! ### the first row -/
theorem first_is {ws : List (Str × Int)} : ∀ {rows : List Row} {i : Nat} {r : Row}, (∀ j s, j < i → rows[j]? = some s → oev ws s.c = false) → rows[i]? = some r → oev ws r.c = true → firstD ws rows = r.d
  | [], _, _, _, h, _ => by cases h
  | a :: rows, 0, r, _, h, q => by
    cases h
    unfold firstD
    rw [List.find?_cons_of_pos (p := fun r : Row => oev ws r.c) q]
  | a :: rows, i + 1, r, n, h, q => by
    have na : oev ws a.c = false := n 0 a (Nat.zero_lt_succ _) rfl
    have := first_is (rows := rows) (i := i) (r := r) (fun j s hj e => n (j + 1) s (by omega) e) h q
    unfold firstD at this ⊢
    rw [List.find?_cons_of_neg (p := fun r : Row => oev ws r.c) (by show ¬ oev ws a.c = true; rw [na]; exact Bool.false_ne_true)]
    exact this
theorem zipSB {seats : List Str} {bids : List Int} {i : Nat} {d : Dt} (hd : (zipD (strsD seats) (intsD bids))[i]? = some d) : ∃ x b, seats[i]? = some x ∧ (seats.zip bids)[i]? = some (x, b) ∧ d = .tup [.str x, .int b] := by
  unfold zipD at hd
  rw [List.getElem?_map] at hd
  cases q : ((strsD seats).zip (intsD bids))[i]? with
  | none => rw [q] at hd; cases hd
  | some pr =>
    rw [q] at hd
    rw [List.getElem?_zip_eq_some] at q
    unfold strsD intsD at q
    rw [List.getElem?_map, List.getElem?_map] at q
    cases hx : seats[i]? with
    | none => rw [hx] at q; cases q.1
    | some x =>
      cases hb : bids[i]? with
      | none => rw [hb] at q; cases q.2
      | some b =>
        rw [hx, hb] at q
        refine ⟨x, b, rfl, List.getElem?_zip_eq_some.mpr ⟨hx, hb⟩, ?_⟩
        rw [← Option.some.inj hd]
        show Dt.tup [pr.1, pr.2] = _
        rw [← Option.some.inj q.1, ← Option.some.inj q.2]
end Sb

set_option Elab.async false
set_option linter.all false
set_option maxRecDepth 100000
set_option autoImplicit false
namespace Sb
open PySem PySem.Spec PyProof.Rows L2 TL
theorem stand_mem {seats : List Str} {bids : List Int} {k : Nat} (h : k < seats.length) : (stand seats bids).getD k sKeep ∈ seats := by
  have hl : k < (stand seats bids).length := by rw [stand_len]; exact h
  rw [List.getD_eq_getElem?_getD, List.getElem?_eq_getElem hl]
  show (stand seats bids)[k] ∈ seats
  have hm := List.getElem_mem hl
  unfold stand at hm
  obtain ⟨i, hi, e⟩ := List.mem_map.mp hm
  obtain ⟨j, hj, rfl⟩ := placesOf_mem hi
  have : (stand seats bids)[k] = seats.getD j sKeep := e.symm
  rw [this, List.getD_eq_getElem?_getD, List.getElem?_eq_getElem hj]
  exact List.getElem_mem hj
theorem out_okS {seats : List Str} {ls : List Ln} {rows : List Row} {bids : List Int} (h : PlanOk seats ls rows) (hb : BidsOk bids) (hl : bids.length = seats.length) : (outG seats ls rows bids).okS 50 ∧ (outG seats ls rows bids).wid ≤ 100000 := by
  obtain ⟨r0, hr0, er0, _⟩ := first_at (worthsL (seats.zip bids) ls) (last_none h.r)
  have hd0 := (h.r.ok r0 hr0).1
  have eo : outG seats ls rows bids = resG seats bids (worthsL (seats.zip bids) ls) r0.d := by unfold outG; rw [er0]
  rw [eo]
  generalize r0.d = dd at hd0
  cases dd with
  | keep => exact ⟨trivial, by show 5 ≤ 100000; decide⟩
  | sell ww p =>
    have hx : whoG seats bids ww ∈ seats := by
      cases ww with
      | seat x => exact hd0.1
      | place k =>
        have hk : 1 ≤ k ∧ k ≤ seats.length := hd0.1
        exact stand_mem (by omega)
    have hn := h.s.ok _ hx
    have hv : 0 ≤ p.val (worthsL (seats.zip bids) ls) ∧ p.val (worthsL (seats.zip bids) ls) < 10 ^ 40 := by
      cases p with
      | nm x => exact getD_ok (plan_wsOk h hb) x
      | nu n =>
        have hp : n ≤ 1000000000000 := hd0.2
        show 0 ≤ (n : Int) ∧ (n : Int) < 10 ^ 40
        omega
    have hw : (Str.ofString (toString (p.val (worthsL (seats.zip bids) ls)))).length ≤ 100 := by
      obtain ⟨n, en⟩ : ∃ n : Nat, p.val (worthsL (seats.zip bids) ls) = (n : Int) := ⟨(p.val (worthsL (seats.zip bids) ls)).toNat, by omega⟩
      rw [en]
      rw [en] at hv
      show (num n).length ≤ 100
      rw [len_cs, cs_num]
      exact Nat.le_trans (numL_len (k := 40) (by decide) (by omega)) (by decide)
    refine ⟨⟨by omega, okS_str (asc_name hn), log2_40 hv.1 hv.2, trivial⟩, ?_⟩
    have := hn.len
    show (10 * (whoG seats bids ww).length + 2 + 2 + ((Str.ofString (toString (p.val (worthsL (seats.zip bids) ls)))).length + 2 + 0)) + 3 ≤ 100000
    omega
theorem firstD_pos {ws : List (Str × Int)} {r : Row} {rows : List Row} (h : oev ws r.c = true) : firstD ws (r :: rows) = r.d := by
  unfold firstD
  rw [List.find?_cons_of_pos (p := fun r : Row => oev ws r.c) h]
theorem firstD_neg {ws : List (Str × Int)} {r : Row} {rows : List Row} (h : oev ws r.c = false) : firstD ws (r :: rows) = firstD ws rows := by
  unfold firstD
  rw [List.find?_cons_of_neg (p := fun r : Row => oev ws r.c) (by show ¬ oev ws r.c = true; rw [h]; exact Bool.false_ne_true)]
theorem cut_mem {ds : List Dt} {lo hi : Option Int} {d : Dt} (h : d ∈ cutD ds lo hi) : d ∈ ds := List.mem_of_mem_drop (List.mem_of_mem_take h)
/-! ### data that can be compared -/
theorem strOk_asc {x : Str} (h : Asc x) : PyData.strOk x = true := by
  unfold PyData.strOk
  rw [← Array.all_toList]
  exact List.all_eq_true.mpr fun c hc => decide_eq_true (Nat.lt_trans (h c hc) (by decide))
structure GoodD (n : Nat) (d : Dt) : Prop where
  pl : d.plain = true
  cl : d.py.canLay0 = true
  dp : d.py.depth ≤ n
theorem GoodD.up {n m : Nat} {d : Dt} (h : GoodD n d) (e : n ≤ m) : GoodD m d := ⟨h.pl, h.cl, Nat.le_trans h.dp e⟩
theorem GoodD.sh {n : Nat} {d : Dt} (h : GoodD n d) (e : n ≤ 64) : SeqAt.shaped d.py = true := Bool.and_eq_true_iff.mpr ⟨h.cl, decide_eq_true (Nat.le_trans h.dp e)⟩
theorem goodA {n : Nat} : ∀ {ds : List Dt}, (∀ d ∈ ds, GoodD n d) → plainA ds = true ∧ PyData.canLayAll0 (pyA ds) = true ∧ PyData.depthAll (pyA ds) ≤ n
  | [], _ => ⟨rfl, rfl, Nat.zero_le _⟩
  | d :: ds, h => by
    obtain ⟨h1, h2, h3⟩ := goodA (ds := ds) fun e he => h e (by simp [he])
    obtain ⟨a, b, c⟩ := h d (by simp)
    refine ⟨Bool.and_eq_true_iff.mpr ⟨a, h1⟩, Bool.and_eq_true_iff.mpr ⟨b, h2⟩, ?_⟩
    show max d.py.depth (PyData.depthAll (pyA ds)) ≤ n
    exact Nat.max_le.mpr ⟨c, h3⟩
theorem good_lst {n : Nat} {ds : List Dt} (h : ∀ d ∈ ds, GoodD n d) : GoodD (n + 1) (.lst ds) := by
  obtain ⟨h1, h2, h3⟩ := goodA h
  exact ⟨h1, h2, Nat.succ_le_succ h3⟩
theorem good_tup {n : Nat} {ds : List Dt} (h : ∀ d ∈ ds, GoodD n d) : GoodD (n + 1) (.tup ds) := by
  obtain ⟨h1, h2, h3⟩ := goodA h
  exact ⟨h1, h2, Nat.succ_le_succ h3⟩
theorem good_int (i : Int) : GoodD 0 (.int i) := ⟨rfl, rfl, Nat.le_refl _⟩
theorem good_non : GoodD 0 .non := ⟨rfl, rfl, Nat.le_refl _⟩
theorem good_str {x : Str} (h : Asc x) : GoodD 0 (.str x) := ⟨rfl, strOk_asc h, Nat.le_refl _⟩
theorem good_pt {ns : List Str} (hn : NamesOk ns) {p : Pt} (h : p.ok ns) : GoodD 0 p.d := by
  cases p with
  | nm x => exact good_str (asc_name (hn x h))
  | nu n => exact good_int _
theorem good_line {ns : List Str} (hn : NamesOk ns) {l : Ln} (h1 : NameOk l.n) (h : ∀ p ∈ l.t.ps, p.ok ns) : GoodD 2 l.dl := by
  refine good_tup (n := 1) fun d hd => ?_
  have hord : Asc l.t.ord := by
    unfold Term.ord
    cases l.t.hi with
    | true => exact asc_dec (by decide +kernel)
    | false => exact asc_dec (by decide +kernel)
  rcases List.mem_cons.mp hd with z | z
  · rw [z]; exact (good_str (asc_name h1)).up (by decide)
  rcases List.mem_cons.mp z with z | z
  · rw [z]; exact (good_str hord).up (by decide)
  rcases List.mem_cons.mp z with z | z
  · rw [z]; exact (good_int _).up (by decide)
  rcases List.mem_cons.mp z with z | z
  · rw [z]
    refine good_lst (n := 0) fun e he => ?_
    obtain ⟨p, hp, rfl⟩ := List.mem_map.mp he
    exact good_pt hn (h p hp)
  · cases z
end Sb

set_option Elab.async false
set_option linter.all false
set_option maxRecDepth 100000
set_option autoImplicit false
namespace Sb
open PySem PySem.Spec PyProof.Rows L2
/-! ### sorted(range, key=f) where f may call defs: the state between two calls of f -/
section
variable {X : Cx} {pins : List (Addr × Obj)} {σ : L2.St} {H : Hp} {s0 s s1 : Shared} {T : List (Addr × Str)} {z : List Addr}
/-- from s0 (with H) to s1: the caller's invariant holds, the records at z are new, ours and untracked -/
def KI (X : Cx) (pins : List (Addr × Obj)) (σ : L2.St) (T : List (Addr × Str)) (H : Hp) (s0 : Shared) (z : List Addr) (s1 : Shared) : Prop :=
  ∃ H1, Inv X pins σ H1 s1 ∧ Un (frs X.stack) [] H H1 s0.heap s1.heap ∧ ExN H H1 ∧ LamX.Tabs T H1 ∧ ∀ b ∈ z, (s0.heap.get? b = none ∧ X.s_0.heap.objs.size ≤ b) ∧ H1 b = none
theorem KI.start (I : Inv X pins σ H s0) (t : LamX.Tabs T H) : KI X pins σ T H s0 [] s0 := ⟨H, I, Un.refl, fun _ _ h _ => h, t, fun b hb => nomatch hb⟩
theorem KI.kept {h' : Heap} {tk : Nat} (k : KI X pins σ T H s0 z s1) (kp : ∀ b u, s1.heap.get? b = some u → h'.get? b = some u) : KI X pins σ T H s0 z { s1 with heap := h', toks := tk } := by
  obtain ⟨H1, I, u, e, t, f⟩ := k
  exact ⟨H1, I.kept kp, u.trans (Un.kept kp), e, t, f⟩
/-- one more record of ours -/
theorem KI.more {b : Addr} (k : KI X pins σ T H s0 z s1) (h0 : s0.heap.get? b = none ∧ X.s_0.heap.objs.size ≤ b) (hb : s1.heap.objs.size ≤ b) : KI X pins σ T H s0 (b :: z) s1 := by
  obtain ⟨H1, I, u, e, t, f⟩ := k
  refine ⟨H1, I, u, e, t, fun c hc => ?_⟩
  rcases List.mem_cons.mp hc with rfl | hc
  · exact ⟨h0, I.hok.fresh hb⟩
  · exact f c hc
theorem KI.less {z' : List Addr} (k : KI X pins σ T H s0 z s1) (h : ∀ b ∈ z', b ∈ z) : KI X pins σ T H s0 z' s1 := by
  obtain ⟨H1, I, u, e, t, f⟩ := k
  exact ⟨H1, I, u, e, t, fun c hc => f c (h c hc)⟩
/-- records of ours have turned -/
theorem KI.turned {h' : Heap} {tk : Nat} (I0 : Inv X pins σ H s0) (k : KI X pins σ T H s0 z s1) (kp : ∀ b u, b ∉ z → s1.heap.get? b = some u → h'.get? b = some u) : KI X pins σ T H s0 z { s1 with heap := h', toks := tk } := by
  obtain ⟨H1, I, u, e, t, f⟩ := k
  have nz : ∀ b o, s0.heap.get? b = some o → b ∉ z := fun b o hb hz => by
    rw [(f b hz).1.1] at hb
    cases hb
  have nzH : ∀ b o, H1 b = some o → b ∉ z := fun b o hb hz => by
    rw [(f b hz).2] at hb
    cases hb
  have hok : HOk X.prog X.w H1 h' := fun b o e1 => (I.hok b o e1).stay (fun c v hc q => kp c v (by
    rcases hc with rfl | hc
    · exact nzH _ _ e1
    · exact nzH _ _ hc) q) (fun _ q => q) fun _ _ q => q
  refine ⟨H1, I.call (ch := z) (g' := s1.gens) (d' := s1.drawn) ⟨fun b o q _ _ hx => kp b o hx q, fun b o q _ _ hx => ⟨o.slots, kp b o hx q⟩, fun b o q n _ => n, fun b o q hx => ⟨o, kp b o hx q⟩, fun _ _ q => q, fun _ _ _ q => q, fun b ps q => ⟨#[], by rw [q]; simp⟩⟩ hok I.bare (fun b hb => ?_), ?_, e, t, f⟩
  · have hge := (f b hb).1
    refine ⟨.inr hge.2, fun q => ?_, fun x c hc q => ?_, fun p hp q => ?_⟩
    · obtain ⟨m, ⟨o, es, ep, ho, _⟩, _⟩ := id I0.loc
      rw [← q, hge.1] at ho
      cases ho
    · obtain ⟨v, o, ho, _⟩ := I0.cell x c hc
      rw [q, hge.1] at ho
      cases ho
    · obtain ⟨ho, _⟩ := I0.pin p hp
      rw [q, hge.1] at ho
      cases ho
  · refine ⟨fun b o q n hb hx => kp b o (nz b _ q) (u.keep b o q n hb hx), fun b o q n hb hx => ?_, u.free, fun b o q hx => ?_, u.tups, u.frzs, u.tbls⟩
    · obtain ⟨sl, q2⟩ := u.slot b o q n hb hx
      exact ⟨sl, kp b _ (nz b _ q) q2⟩
    · obtain ⟨o', q2⟩ := u.there b o q hx
      exact ⟨o', kp b _ (nz b _ q) q2⟩
/-- a record of ours is tracked from now on -/
theorem KI.adopt {a : Addr} {o : HO} (I0 : Inv X pins σ H s0) (k : KI X pins σ T H s0 z s1) (ha : a ∈ z) (new : ∀ H1 : Hp, ObjOk X.prog X.w (upd H1 a o) s1.heap a o) :
    ∃ H1, Inv X pins σ (upd H1 a o) s1 ∧ H1 a = none ∧ ExN H H1 ∧ LamX.Tabs T H1 := by
  obtain ⟨H1, I, u, e, t, f⟩ := k
  obtain ⟨hge, hn⟩ := f a ha
  have ne : ∀ b u, H1 b = some u → b ≠ a := fun b u q => ne_of_none q hn
  refine ⟨H1, I.step (ch := [a]) (h' := s1.heap) (g' := s1.gens) (d' := s1.drawn) (t' := s1.toks) (fun b hb => ?_) (fun b o _ _ _ q _ => q) (fun b o _ _ _ q _ => ⟨o.slots, q⟩) (fun b o hb q n => by rw [upd_ne (fun x => hb (by simp [x]))]; exact n) (fun b o _ q => ⟨o, q⟩)
    (fun b xs q => by rw [upd_ne (ne b _ q)]; exact q) (fun b o u q => by rw [upd_ne (ne b _ q)]; exact q) (fun b ps q => ⟨#[], by rw [upd_ne (ne b _ q), q]; simp⟩) (fun m hm => hm) (fun b u q => ?_) I.bare, hn, e, t⟩
  · obtain rfl : b = a := by simpa using hb
    refine ⟨.inr hge.2, fun q => ?_, fun x c hc q => ?_, fun p hp q => ?_⟩
    · obtain ⟨m, ⟨o, es, ep, ho, _⟩, _⟩ := id I0.loc
      rw [← q, hge.1] at ho
      cases ho
    · obtain ⟨v, o, ho, _⟩ := I0.cell x c hc
      rw [q, hge.1] at ho
      cases ho
    · obtain ⟨ho, _⟩ := I0.pin p hp
      rw [q, hge.1] at ho
      cases ho
  · by_cases hb : b = a
    · rw [hb, upd_same] at q
      cases q
      rw [hb]
      exact new H1
    · rw [upd_ne hb] at q
      exact (I.hok b u q).stay (fun c v _ q => q) (fun c q => by rw [upd_ne (ne c _ q)]; exact q) fun c xs q => by rw [upd_ne (ne c _ q)]; exact q
/-- behind a call of the key -/
def KAfter (X : Cx) (pins : List (Addr × Obj)) (σ : L2.St) (T : List (Addr × Str)) (k : Int) (H1 : Hp) (s1 : Shared) (u : Value) (s2 : Shared) : Prop :=
  ∃ t H2, u = .int k t ∧ Inv X pins σ H2 s2 ∧ Un (frs X.stack) [] H1 H2 s1.heap s2.heap ∧ ExN H1 H2 ∧ LamX.Tabs T H2
/-- what the key's call promises -/
def KTurn (X : Cx) (pins : List (Addr × Obj)) (σ : L2.St) (T : List (Addr × Str)) (H : Hp) (s0 : Shared) (A : Around) (f : Value) (v : Value) (k : Int) : Prop :=
  ∀ (H1 : Hp) (s1 : Shared), Inv X pins σ H1 s1 → Un (frs X.stack) [] H H1 s0.heap s1.heap → ExN H H1 → LamX.Tabs T H1 →
    wpAny (model X.prog X.w) A (call f [v]) (KAfter X pins σ T k H1 s1) (fun _ _ => False) s1
end
end Sb
namespace PySem.W
open PySem PySem.Calls PyProof.Rows L2 Sb
section
variable {X : Cx} {pins : List (Addr × Obj)} {σ : L2.St} {H : Hp} {s0 s : Shared} {T : List (Addr × Str)} {A : Around} {E : Value → Shared → Prop} {a kS : Addr} {b : Bool} {vs : List Value} {e1 : Nat} {P : PySem.Fin → Shared → Prop} {kz : List Int}
theorem keyI_rest {f : Value} (I0 : Inv X pins σ H s0) (k0 : KI X pins σ T H s0 [a, kS] s) (nk : s.heap.get? kS = some (seqObj "list" #[] 0)) (na : s.heap.get? a = some (seqObj "list" #[] e1)) (hka : kS ≠ a)
    (hlen : kz.length = vs.length) (hZ : vs.length ≤ sizeLine) (hal : AllAlike (kz.map PyData.int)) (hsk : Sortable (kz.map PyData.int)) (hu : ∀ d, d ∈ kz.map PyData.int → A.units + d.depth < cLine)
    (turn : ∀ (i : Nat) (v : Value) (k : Int), vs[i]? = some v → kz[i]? = some k → KTurn X pins σ T H s0 A f v k)
    (h : ∀ s3 out c, KI X pins σ T H s0 [a, kS] s3 → s3.heap.get? a = some (seqObj "list" (List.toArray out) c) → KeyedOut b (kz.map PyData.int) vs out → P (.done (.ret .none)) s3) :
    wpAny (model X.prog X.w) A (ksk_rest a f b vs.toArray e1 (.ref kS)) P E s := by
  have zfl : ∀ c ∈ [a, kS], c ∉ frs X.stack := fun c hc hz => by
    obtain ⟨H1, I, u, e, t, g⟩ := k0
    obtain ⟨_, o, q, _⟩ := I0.stack.mem hz
    rw [(g c hc).1.1] at q
    cases q
  unfold ksk_rest
  refine wpAny_bind (wpAny_rule ?_)
  first
    | rw [List.forIn_toArray]
    | (rw [← Array.forIn_toList]; simp only [List.toList_toArray])
    | rw [← Array.forIn_toList]
  refine wpAny_bind (ksk_fold (fun i s' => ∃ kA e, KI X pins σ T H s0 [a, kS] s' ∧ s'.heap.get? kS = some (seqObj "list" kA e) ∧ s'.heap.get? a = some (seqObj "list" #[] e1) ∧ EachIs (fun v k => ∃ t, v = Value.int k t) kA.toList (kz.take i)) vs 0 s
    ⟨#[], 0, k0, nk, na, by rw [List.take_zero]; exact EachIs.nil⟩ ?step ?done)
  case step =>
    rintro j x s' hx ⟨kA, e, ki, nk', na', hk⟩
    simp only [Nat.zero_add] at hk ⊢
    have hj : j < vs.length := (List.getElem?_eq_some_iff.mp hx).1
    obtain ⟨k, hkj⟩ : ∃ k, kz[j]? = some k := ⟨_, List.getElem?_eq_getElem (by omega)⟩
    have hz : kA.size ≤ vs.length := by
      have h1 := hk.length
      rw [Array.length_toList, List.length_take] at h1
      omega
    have fa := zfl a (by simp)
    have fk := zfl kS (by simp)
    obtain ⟨H1, I, u, ex, tb, g⟩ := ki
    refine wpAny_bind (wpAny_attempt (wpAny_mono (turn j x k hx hkj H1 s' I u ex tb) (fun v s'' he => ?_) fun _ _ hF => hF.elim))
    obtain ⟨t, H2, rfl, I2, u2, ex2, tb2⟩ := he
    try dsimp only
    have nk2 : s''.heap.get? kS = some (seqObj "list" kA e) := u2.keep _ _ nk' (g kS (by simp)).2 fk (by simp)
    have na2 : s''.heap.get? a = some (seqObj "list" #[] e1) := u2.keep _ _ na' (g a (by simp)).2 fa (by simp)
    have ki2 : KI X pins σ T H s0 [a, kS] s'' := ⟨H2, I2, u.trans u2, fun b o q n => ex2 b o (ex b o q n) n, tb2, fun b hb => by
      refine ⟨(g b hb).1, ?_⟩
      rcases List.mem_cons.mp hb with rfl | hb'
      · exact u2.free _ _ na' (g _ hb).2 (by simp)
      · obtain rfl : b = kS := by simpa using hb'
        exact u2.free _ _ nk' (g _ hb).2 (by simp)⟩
    have s1 := Heap.SameBut.update s''.heap kS (Obj.mapSeq (·.push (Value.int k t)))
    obtain ⟨c2, hc2⟩ : ∃ c2, (s''.heap.update kS (Obj.mapSeq (·.push (Value.int k t)))).get? kS = some (seqObj "list" (kA.push (Value.int k t)) c2) := ⟨_, get?_update_seq nk2 (·.push (Value.int k t))⟩
    have ek : kz.take (j + 1) = kz.take j ++ [k] := by rw [List.take_add_one, hkj]; simp
    have ea : (kA.push (Value.int k t)).toList = kA.toList ++ [Value.int k t] := by simp
    refine wpAny_bind (listUpdate_at nk2 rfl ?_ (Nat.le_trans hz hZ) (Nat.le_trans (Nat.le_of_eq (Array.size_push ..)) (Nat.succ_le_succ (Nat.le_trans hz hZ))))
    refine wpAny_pure ⟨rfl, kA.push (Value.int k t), c2, ki2.turned I0 (tk := s''.toks) (fun b o hb q => (s1.2 b (fun z => hb (by simp [z]))).trans q), hc2, (s1.2 a hka.symm).trans na2, ?_⟩
    rw [ea, ek]
    exact each_snoc (R := fun (v : Value) (k : Int) => ∃ t, v = Value.int k t) ⟨t, rfl⟩ hk
  case done =>
    rintro s' ⟨kA, e, ki, nk', na', hk⟩
    have e3 : kz.take (0 + vs.length) = kz := List.take_of_length_le (by omega)
    rw [e3] at hk
    have hk' : EachIs (fun v k => ∃ as, Reads s'.heap v k as) kA.toList (kz.map PyData.int) := by
      refine each_of_get ?_ fun i v d hv hd => ?_
      · rw [List.length_map]; exact hk.length
      · rw [List.getElem?_map] at hd
        cases q : kz[i]? with
        | none => rw [q] at hd; cases hd
        | some k =>
          rw [q] at hd
          cases hd
          have hm : (v, k) ∈ kA.toList.zip kz := List.mem_of_getElem? (i := i) (by rw [List.getElem?_zip_eq_some]; exact ⟨hv, q⟩)
          obtain ⟨t, et⟩ := hk.zip _ hm
          have et : v = Value.int k t := et
          rw [et]
          exact ⟨[], .int _ _⟩
    have hsz : kA.size = vs.length := by
      have h1 := hk.length
      rw [Array.length_toList] at h1
      omega
    try dsimp only
    refine wpAny_bind (listItems_at nk' rfl ?_)
    have hid : ∀ c o, c ≠ kS → s'.heap.get? c = some o → (hidT s'.heap fun c => if c = kS then some (.own 0) else none).get? c = some o := fun c o hc q => hidT_get q (if_neg hc)
    refine keyH_end (κ := dataKind s'.heap (kz.map PyData.int)) (h₁ := hidT s'.heap fun c => if c = kS then some (.own 0) else none) (fun c o _ q => (of_hidT q).1) ?_ nk' na' hka (SortsAt.data (s := s') hk' hal hsk hu) hsz hZ fun h3 tk3 c k3 n3 => h _ _ c ?_ n3 ⟨s'.heap, kA.toList, hal, rfl, hk'⟩
    · cases q : (hidT s'.heap fun c => if c = kS then some (.own 0) else none).get? kS with
      | none => rfl
      | some o =>
        have := (of_hidT q).2
        rw [if_pos rfl] at this
        cases this
    · refine ki.turned I0 (fun c o hc q => k3 c o (fun z => hc (by simp [z])) (hid c o (fun z => hc (by simp [z])) q))
theorem keyI_tree {f : Value} {n : Nat} (I0 : Inv X pins σ H s0) (k0 : KI X pins σ T H s0 [a] s) (ho : s.heap.get? a = some (seqObj "list" vs.toArray n)) (hlen : kz.length = vs.length) (hZ : vs.length ≤ sizeLine) (hal : AllAlike (kz.map PyData.int)) (hsk : Sortable (kz.map PyData.int)) (hu : ∀ d, d ∈ kz.map PyData.int → A.units + d.depth < cLine)
    (turn : ∀ (i : Nat) (v : Value) (k : Int), vs[i]? = some v → kz[i]? = some k → KTurn X pins σ T H s0 A f v k)
    (h : ∀ s3 out c, KI X pins σ T H s0 [a] s3 → s3.heap.get? a = some (seqObj "list" (List.toArray out) c) → KeyedOut b (kz.map PyData.int) vs out → P (.done (.ret .none)) s3) :
    wpAny (model X.prog X.w) A (ksk_tree a f b) P E s := by
  have ha : a < s.heap.objs.size := Heap.lt_size ho
  obtain ⟨e1, ho1⟩ : ∃ e1, (s.heap.update a (Obj.mapSeq fun _ => (#[] : Array Value))).get? a = some (seqObj "list" #[] e1) := ⟨_, get?_update_seq ho fun _ => #[]⟩
  have hkS : ((s.heap.update a (Obj.mapSeq fun _ => (#[] : Array Value))).push (seqObj "tuple" vs.toArray 0)).objs.size = s.heap.objs.size + 1 := by rw [size_push', Heap.size_update]
  have ha0 : s0.heap.get? a = none ∧ X.s_0.heap.objs.size ≤ a := by
    obtain ⟨H1, _, _, _, _, g⟩ := id k0
    exact (g a (by simp)).1
  have lsz : ∀ b o, s0.heap.get? b = some o → b < s.heap.objs.size := fun b o q => by
    obtain ⟨H1, _, u, _⟩ := id k0
    obtain ⟨o', q'⟩ := u.there b o q (by simp)
    exact Heap.lt_size q'
  have hk0 : s0.heap.get? (s.heap.objs.size + 1) = none ∧ X.s_0.heap.objs.size ≤ s.heap.objs.size + 1 := by
    refine ⟨?_, ?_⟩
    · cases q : s0.heap.get? (s.heap.objs.size + 1) with
      | none => rfl
      | some o => exact absurd (lsz _ o q) (Nat.not_lt_of_le (Nat.le_succ _))
    · exact Nat.le_trans ha0.2 (Nat.le_succ_of_le (Nat.le_of_lt ha))
  unfold ksk_tree
  refine wpAny_bind (listItems_at ho rfl ?_)
  refine wpAny_bind (listUpdate_at ho rfl ?_ (by rw [List.size_toArray]; exact hZ) (Nat.zero_le _))
  refine wpAny_bind (seqEpoch_at ho1 rfl ?_)
  refine wpAny_bind (wpAny_newTuple ?_ (by show vs.length ≤ _; exact hZ))
  refine wpAny_bind (wpAny_newList ?_ (Nat.zero_le _))
  refine wpAny_holding ?_
  have k1 : KI X pins σ T H s0 [a] { s with heap := (s.heap.update a (Obj.mapSeq fun _ => (#[] : Array Value))).push (seqObj "tuple" vs.toArray 0) } := k0.turned I0 (tk := s.toks) fun c o hc q => Heap.get?_push_of_some _ (((Heap.SameBut.update s.heap a (Obj.mapSeq fun _ => (#[] : Array Value))).2 c (fun z => hc (by simp [z]))).trans q)
  have k2 : KI X pins σ T H s0 [a, ((s.heap.update a (Obj.mapSeq fun _ => (#[] : Array Value))).push (seqObj "tuple" vs.toArray 0)).objs.size] { s with heap := ((s.heap.update a (Obj.mapSeq fun _ => (#[] : Array Value))).push (seqObj "tuple" vs.toArray 0)).push (seqObj "list" #[] 0) } :=
    ((k1.more (b := ((s.heap.update a (Obj.mapSeq fun _ => (#[] : Array Value))).push (seqObj "tuple" vs.toArray 0)).objs.size) (by rw [hkS]; exact hk0) (Nat.le_refl _)).kept (tk := s.toks) fun c o q => Heap.get?_push_of_some _ q).less fun c hc => by
      simp only [List.mem_cons, List.not_mem_nil, or_false] at hc ⊢
      exact hc.elim .inr .inl
  refine keyI_rest (kz := kz) (T := T) (s0 := s0) (s := { s with heap := ((s.heap.update a (Obj.mapSeq fun _ => (#[] : Array Value))).push (seqObj "tuple" vs.toArray 0)).push (seqObj "list" #[] 0) }) (kS := ((s.heap.update a (Obj.mapSeq fun _ => (#[] : Array Value))).push (seqObj "tuple" vs.toArray 0)).objs.size)
    I0 k2 (Heap.get?_push_size _ rfl) (Heap.get?_push_of_some _ (Heap.get?_push_of_some _ ho1)) (by rw [hkS]; exact Nat.ne_of_gt (Nat.lt_succ_of_lt ha)) hlen hZ hal hsk hu turn fun s3 out c ki => h s3 out c (ki.less fun d hd => by simp at hd; simp [hd])
theorem sorted_range_keyI {r : Addr} {f : Value} {n : Nat} {hi : Int} {t u v : Tok} {kw : List (Str × Value)} {Q : Value → Shared → Prop} (k : Int → Int) (I0 : Inv X pins σ H s0) (hT : LamX.Tabs T H) (hh : A.handled = none) (hr : s0.heap.get? r = some { cls := .type "range", data := .fields #[.int 0 t, .int hi u, .int 1 v] })
    (hsmall : Builtin.Range.small 0 hi 1 = true) (hn : Builtin.Range.rangeSize 0 hi 1 = n) (hlen : n ≤ 1000)
    (hu : A.units + 3 < cLine) (ha1 : argsOk "sorted" ⟨[.ref r], kw⟩) (ha2 : ∀ x, argsOk "list.sort" ⟨[.ref x], kw⟩) (ht : ∀ x, Builtin.«list.sort» ⟨[.ref x], kw⟩ = ksk_tree x f false)
    (turn : ∀ (x : Int) (t : Tok), (∃ i : Nat, i < n ∧ x = (i : Int)) → KTurn X pins σ T H s0 A.in1.in1 f (.int x t) (k x))
    (h : ∀ out l c s3, KI X pins σ T H s0 [l] s3 → s3.heap.get? l = some (seqObj "list" (List.toArray out) c) → EachIs (fun v x => ∃ t, v = .int x t) out (((List.range n).map fun i : Nat => (i : Int)).mergeSort (dataLe false fun x => .int (k x))) →
      Q (.ref l) s3) :
    wpAny (model X.prog X.w) A (call (.builtin "sorted") [.ref r] kw) Q E s0 := by
  have eK : (((List.range n).map fun i : Nat => (i : Int)).map k).map PyData.int = ((List.range n).map fun i : Nat => (i : Int)).map fun x => PyData.int (k x) := by rw [List.map_map]; rfl
  refine call_function_entry_kw kind_sorted plain_sorted entry_sorted ha1 ?_
  unfold Builtin.«sorted»
  refine wpAny_bind (m := checkCount "sorted" 1 1 _) (wpAny_pure ?_)
  refine wpAny_bind (L2.collect_range (A := A.in1) hh hr hsmall hn (by omega) fun h1 tk acc kp1 hi1 => ?_)
  have hsz : acc.toList.length ≤ sizeLine := by
    rw [Array.length_toList, hi1.1, sizeLine_eq]
    omega
  have h0 : s0.heap.get? h1.objs.size = none ∧ X.s_0.heap.objs.size ≤ h1.objs.size := by
    refine ⟨?_, ?_⟩
    · cases q : s0.heap.get? h1.objs.size with
      | none => rfl
      | some o => exact absurd (Heap.lt_size (kp1 _ o q)) (Nat.lt_irrefl _)
    · obtain ⟨m, ⟨o, es, ep, ho, _⟩, _⟩ := id I0.loc
      exact Nat.le_trans I0.ok.above (Nat.le_of_lt (Heap.lt_size (kp1 _ o ho)))
  refine wpAny_bind (wpAny_newList ?_ hsz)
  have ho : (h1.push (seqObj "list" acc.toList.toArray 0)).get? h1.objs.size = some (seqObj "list" acc.toList.toArray 0) := Heap.get?_push_size _ rfl
  have each : EachIs (fun (v : Value) (x : Int) => (∃ t, v = .int x t)) acc.toList ((List.range n).map fun i : Nat => (i : Int)) := by
    refine each_of_get (by rw [Array.length_toList, hi1.1, List.length_map, List.length_range]) fun i a b ha hb => ?_
    rw [Array.getElem?_toList] at ha
    obtain ⟨t, e⟩ := hi1.2 i a ha
    rw [List.getElem?_map] at hb
    cases q : (List.range n)[i]? with
    | none => rw [q] at hb; cases hb
    | some j =>
      rw [q] at hb
      have hj : j = i := by
        have := List.getElem?_eq_some_iff.mp q
        obtain ⟨h1, h2⟩ := this
        rw [List.getElem_range] at h2
        exact h2.symm
      cases hb
      subst hj
      refine ⟨t, e.trans ?_⟩
      show Value.int (0 + (j : Int) * 1) t = Value.int (j : Int) t
      rw [show (0 + (j : Int) * 1) = (j : Int) by omega]
  have k1 : KI X pins σ T H s0 [] { s0 with heap := h1, toks := tk } := (KI.start I0 hT).kept kp1
  have k2 : KI X pins σ T H s0 [h1.objs.size] { s0 with heap := h1.push (seqObj "list" acc.toList.toArray 0), toks := tk } := (k1.more (b := h1.objs.size) h0 (Nat.le_refl _)).kept (tk := tk) fun c o q => Heap.get?_push_of_some _ q
  show wpAny _ _ _ _ _ { s0 with heap := h1.push (seqObj "list" acc.toList.toArray 0), toks := tk }
  refine wpAny_bind (wpAny_holding (wpAny_call_entry_kw slot_list_sort ⟨_, ho, rfl⟩ entry_list_sort ?body (ha2 _)))
  case body =>
    show wpAny (model X.prog X.w) A.in1.in1 (Builtin.«list.sort» ⟨[.ref h1.objs.size], kw⟩) _ _ _
    rw [ht]
    refine keyI_tree (b := false) (T := T) (s0 := s0) (kz := ((List.range n).map fun i : Nat => (i : Int)).map k) (s := { s0 with heap := h1.push (seqObj "list" acc.toList.toArray 0), toks := tk }) I0 k2 ho (by rw [List.length_map, List.length_map, List.length_range, Array.length_toList, hi1.1]) hsz (by rw [eK]; exact PySem.W.AllAlike.of fun _ _ => rfl) ?_ (fun d hd => ?_)
      (fun i v x hv hx => ?_) fun s3 out c ki hD ko => ?_
    · rw [eK]
      exact PySem.W.Sortable.others fun _ => ⟨(fun z => by cases z), fun _ z => by cases z⟩
    · obtain ⟨x, _, rfl⟩ := List.mem_map.mp hd
      show A.units + 1 + 1 + _ < cLine
      have : (PyData.int x).depth = 0 := rfl
      omega
    · rw [List.getElem?_map] at hx
      cases q : ((List.range n).map fun i : Nat => (i : Int))[i]? with
      | none => rw [q] at hx; cases hx
      | some y =>
        rw [q] at hx
        cases hx
        have hm : (v, y) ∈ acc.toList.zip ((List.range n).map fun i : Nat => (i : Int)) := List.mem_of_getElem? (i := i) (by rw [List.getElem?_zip_eq_some]; exact ⟨hv, q⟩)
        obtain ⟨t, et⟩ := each.zip _ hm
        have et : v = Value.int y t := et
        rw [et]
        obtain ⟨j, hj, rfl⟩ := List.mem_map.mp (List.mem_of_getElem? q)
        exact turn _ t ⟨j, List.mem_range.mp hj, rfl⟩
    · refine ⟨_, rfl, wpAny_pure ⟨_, rfl, ?_⟩⟩
      rw [eK] at ko
      exact h out _ c s3 ki hD (keyedOut_each (fun x => PyData.int (k x)) ko each)
end
end PySem.W

set_option Elab.async false
set_option linter.all false
set_option maxRecDepth 100000
set_option autoImplicit false
namespace Sb
open PySem PySem.Spec PyProof.Rows L2
/-! ### the body of lambda x: .. with one captured name y, entered from within sorted -/
abbrev lamE (X : Cx) (scope : Scope) (L f c' : Addr) : Env := PySem.W.envX (X.env.qual ++ "<lambda>") scope L f (.ref c') (cloFrom X.env.cells scope.names [])
def lamC (X : Cx) (A : Around) (s : Shared) (H : Hp) (scope : Scope) (f c' : Addr) (x y : Str) : Cx where
  prog := X.prog
  w := X.w
  K := X.K
  mg := X.mg
  base := X.base
  A := A.deeper (lamE X scope s.heap.objs.size f c')
  N := [x, y]
  s_0 := s
  H_0 := H
  env := lamE X scope s.heap.objs.size f c'
  outer := X.stack
  stack := lamE X scope s.heap.objs.size f c' :: X.stack
  ex := []
  fn := fun _ => false
  calm := true
  pn := []
  xe := fun _ _ => False
structure Lam1 (sc scope : Scope) (x y : Str) : Prop where
  kind : scope.kind = .function
  co : scope.isCoroutine = false
  gen : scope.isGenerator = false
  nc : ∀ z ∈ scope.names, z.2 ≠ .cell
  hx : scope.names.lookup x = some .local
  hy : scope.names.lookup y = some .free
  fr : ∀ z ∈ scope.names, z.2 = .free → z.1 = y
  yc : sc.names.lookup y = some .cell
section
variable {X : Cx} {pins : List (Addr × Obj)} {σ : L2.St} {H : Hp} {s : Shared} {x y : Str} {scope : Scope} {f c' : Addr}
theorem lam_start1 {A : Around} {h₁ : Heap} {tk i : Nat} {n : Int} {t : Tok} {vy : V} (I : Inv X pins σ H s) (L : Lam1 X.env.scope scope x y) (hA : A.frames = some X.stack) (hd : A.handled = none) (hN : X.N[i]? = some y) (hσ : σ[i]? = some (some vy))
    (hns : h₁.Ns s.heap.objs.size fun z => [(x, Value.int n t)].reverse.lookup z) (kp : ∀ b o, s.heap.get? b = some o → h₁.get? b = some o) :
    Inv (lamC X A s H scope f c' x y) [] [some (.int n), some vy] H { s with heap := h₁, toks := tk } := by
  have e0 := I.env0
  have hfree : ∀ z ∈ scope.names, z.2 = .free → ∃ c, X.env.cells.lookup z.1 = some c := fun z hz e => by
    rw [L.fr z hz e]
    exact I.ok.has y (.inl L.yc)
  have cm : ∀ {y c}, (cloFrom X.env.cells scope.names []).lookup y = some c → X.env.cells.lookup y = some c := fun {y c} e => by
    rcases cloFrom_mem (PySem.mem_of_lookup e) with hm | ⟨h1, h2⟩
    · cases hm
    · obtain ⟨c1, hc⟩ := hfree _ h1 rfl
      have hc : X.env.cells.lookup y = some c1 := hc
      have e2 : c = c1 := by
        rw [h2, hc] <;> rfl
      rw [e2]
      exact hc
  have look : ∀ {y}, scope.names.lookup y = some .free → ∃ c, (cloFrom X.env.cells scope.names []).lookup y = some c := fun {y} hl => by
    have hy : (y, NameKind.free) ∈ scope.names := PySem.mem_of_lookup hl
    exact mem_lookup (cloFrom_has (cells := X.env.cells) (acc := []) hy)
  have cellK : ∀ {c : Addr} {v : Option Value}, s.heap.IsCell c v → h₁.IsCell c v := fun {c v} ⟨o, ho, hd⟩ => ⟨o, kp _ _ ho, hd⟩
  have noA : ∀ b : Addr, b ∉ (lamC X A s H scope f c' x y).ex := fun b z => absurd (show b ∈ ([] : List Addr) from z) (by simp)
  refine ⟨⟨e0.mod, L.kind, rfl, rfl, Nat.le_refl _, fun y z c e1 e2 => I.ok.inj y z c (cm e1) (cm e2), fun y hy => ?_, fun y c z _ => ?_, fun _ => hd, Around.frames_deeper hA, .inr ⟨rfl, rfl⟩, fun b z => absurd z (noA b), e0.bs, e0.bsz, fun b _ _ => noA b,
      fun b z => absurd z (noA b), e0.funs, e0.frf⟩,
    rfl, e0.bare, Un.kept kp, ⟨_, hns, fun j z v e1 e2 e3 => ?_⟩, fun y c e => ?_, e0.hok.fresh (Nat.le_refl _), fun y c e => ?_, fun q hq => absurd (show q ∈ ([] : List (Addr × Obj)) ++ [] from hq) (by simp), e0.hok.kept kp, rfl⟩
  · have hy : scope.names.lookup y = some .cell ∨ scope.names.lookup y = some .free := hy
    rcases hy with hy | hy
    · exact absurd rfl (L.nc _ (PySem.mem_of_lookup hy))
    · exact look hy
  · have z : false = true := z
    cases z
  · match j, e1, e2 with
    | 0, e1, e2 =>
      obtain rfl : x = z := by simpa [lamC] using e1
      obtain rfl : V.int n = v := by simpa using e2
      exact ⟨.int n t, ⟨t, rfl⟩, .inl ⟨L.hx, by simp⟩⟩
    | 1, e1, e2 =>
      obtain rfl : y = z := by simpa [lamC] using e1
      obtain rfl : vy = v := by simpa using e2
      obtain ⟨m, hn, hl⟩ := I.loc
      obtain ⟨w', r, q⟩ := hl i y vy hN hσ (.inr (.inl L.yc))
      obtain ⟨c2, h2⟩ := look L.hy
      refine ⟨w', r, .inr ⟨.inr L.hy, c2, h2, ?_⟩⟩
      have c1 := cm h2
      rcases q with ⟨k', _⟩ | ⟨_, c3, e', z⟩
      · have k' : X.env.scope.names.lookup y = some .local := k'
        rw [L.yc] at k'
        cases k'
      · rw [c1] at e'
        cases e'
        exact cellK z
    | j + 2, e1, e2 => simp [lamC] at e1
  · obtain ⟨w', z⟩ := I.cell y c (cm e)
    exact ⟨w', cellK z⟩
  · exact I.freeC y c (cm e)
/-- the lambda called with an int: its body's reading tells the key -/
theorem lam_turn {T : List (Addr × Str)} {A : Around} {k j : Nat} {n kv : Int} {t : Tok} {vy : V} {pm ctv : Value} {params : Arguments} {body : Expr} {tb : TE} {s0 : Shared} {H0 : Hp} (I0 : Inv X pins σ H0 s0) (L : Lam1 X.env.scope scope x y) (hA : A.frames = some X.stack) (hr : Room (k + 1) A) (hN : X.N[j]? = some y) (hσ : σ[j]? = some (some vy))
    (hf : s0.heap.get? f = some (PySem.W.kla_obj "<lambda>" (X.env.qual ++ "<lambda>") params body scope (cloFrom X.env.cells scope.names []) pm c' ctv)) (hfn : H0 f = none) (hfr : f ∉ frs X.stack) (hco : H0 c' = some (LamX.CodeO c' (X.env.qual ++ "<lambda>")))
    (hbind : bindArgs (PySem.W.kla_fn "<lambda>" (X.env.qual ++ "<lambda>") params body scope (cloFrom X.env.cells scope.names []) pm (.ref c') ctv) ⟨[.int n t], []⟩ = pure [(x, .int n t)])
    (hbody : ∀ (s : Shared) (H : Hp), Room k (A.deeper (lamE X scope s.heap.objs.size f c')) → PE (lamC X A s H scope f c' x y) body tb)
    (ht : ∀ H1, ExN H0 H1 → LamX.Tabs T H1 → tb [some (.int n), some vy] H1 fun u H2 => u = .int kv ∧ ExN H1 H2 ∧ LamX.Tabs T H2) :
    KTurn X pins σ T H0 s0 A (.ref f) (.int n t) kv := by
  intro H1 s1 I1 un ex tb1
  have of1 := un.keep f _ hf hfn hfr (by simp)
  obtain ⟨⟨oc, vs, t', hoc, hdc, hvc⟩, _, _⟩ := I1.hok c' _ (ex _ _ hco LamX.codeO_ne)
  refine wpAny_call ?_
  refine PySem.W.kla_callFunE hr.depth of1 rfl L.co L.gen rfl ⟨c', oc, vs, t', rfl, hoc, hdc, hvc⟩ ?_
  rw [hbind]
  refine wpAny_pure (wpAny_newFunctionEnv L.nc (fun z hz => ?_) (fun h₁ hns hsb => ⟨I1.nolimit.fresh _ hsb, ?_⟩) L.kind)
  · have hz : z = (x, Value.int n t) := by simpa using hz
    rw [hz]
    exact L.hx
  show codeAny _ _ (.expr body (lamE X scope s1.heap.objs.size f c')) _ _
  have kp : ∀ b o, s1.heap.get? b = some o → h₁.get? b = some o := fun b o e => hsb.extBut b o (Nat.ne_of_lt (Heap.lt_size e)) (Heap.get?_push_of_some _ e)
  have J := lam_start1 (x := x) (y := y) (f := f) (c' := c') (A := A) (tk := s1.toks + [(x, Value.int n t)].length) I1 L hA hr.hd hN hσ hns kp
  refine PySem.W.kla_codeExpr (wpAny_mono ((hbody s1 H1 (hr.deeper _)).run [] _ _ H1 _ J (ht H1 ex tb1)) (fun v s' hq => ?_) fun e s' hq => (show False from hq).elim)
  obtain ⟨w', H', J', rv, rfl, q1, q2⟩ := hq
  obtain ⟨t2, rfl⟩ := rv
  exact ⟨t2, H', rfl, I1.call' (ch := []) J'.os J'.base J'.hok J'.bare (fun b z => absurd z (by simp)), J'.base, q1, q2⟩
end
/-! ### sorted(range(e), key=lambda x: body) -/
def sortedBy (k : Int → Int) (n : Nat) : List Int := ((List.range n).map fun i : Nat => (i : Int)).mergeSort (PySem.W.dataLe false fun x => .int (k x))
theorem sortedBy_len (k : Int → Int) (n : Nat) : (sortedBy k n).length = n := by
  unfold sortedBy
  rw [List.length_mergeSort, List.length_map, List.length_range]
def tSortLamC (T : List (Addr × Str)) (j : Nat) (te tb : TE) : TE := fun σ H Q => tCB rRng1 (tCons te tNil) σ H fun v H2 => ∃ (n : Nat) (r : Addr) (vy : V) (k : Int → Int), v = .ref r ∧ H2 r = some (.rng 0 (n : Int)) ∧ n ≤ 100 ∧ LamX.Tabs T H2 ∧ σ[j]? = some (some vy) ∧
  (∀ i : Nat, i < n → ∀ H3, ExN H2 H3 → LamX.Tabs T H3 → tb [some (.int (i : Int)), some vy] H3 fun u H4 => u = .int (k (i : Int)) ∧ ExN H3 H4 ∧ LamX.Tabs T H4) ∧
  ∀ H3 l, ExN H2 H3 → LamX.Tabs T H3 → H3 l = none → Q (.ref l) (upd H3 l (.lst ((sortedBy k n).map V.int)))
section
variable {X : Cx}
theorem pe_sortLamC {T : List (Addr × Str)} {c P : Addr} {k j : Nat} {x y : Str} {params : Arguments} {scope : Scope} {e body : Expr} {te tb : TE} {p0 pr pq lpos kpos pos : Pos}
    (hg : Gl X "sorted") (hm : X.mg "sorted" = none) (hg2 : Gl X "range") (hm2 : X.mg "range" = none) (he : PE X e te) (hr : Room (k + 3) X.A)
    (TB : LamX.TabB X.base X.mg c P) (hcode : X.env.code = .ref c) (hmT : (P, X.env.qual ++ "<lambda>") ∈ T) (hu : ∀ p ∈ T, p.1 = P → p.2 = X.env.qual ++ "<lambda>") (hdef : defaultsOf params X.env = ([], []))
    (hbind : ∀ (q : Str) (cl : List (Str × Addr)) (pm cv ctv v : Value), bindArgs (PySem.W.kla_fn "<lambda>" q params body scope cl pm cv ctv) ⟨[v], []⟩ = pure [(x, v)])
    (L : Lam1 X.env.scope scope x y) (hNj : X.N[j]? = some y)
    (hbody : ∀ (s : Shared) (H : Hp) (f c' : Addr), Room k (X.A.in1.in1.deeper (lamE X scope s.heap.objs.size f c')) → PE (lamC X X.A.in1.in1 s H scope f c' x y) body tb)
    (hs1 : starEach [e] X.env = (false, eval e X.env) :: starEach [] X.env := by rfl)
    (hs2 : ∀ (e' : Expr), e' = .Call (.Name "range" pr) [e] [] pq → starEach [e'] X.env = (false, eval e' X.env) :: starEach [] X.env := by intros; subst_vars; rfl) :
    PE X (.Call (.Name "sorted" p0) [.Call (.Name "range" pr) [e] [] pq] [⟨some "key", .Lambda params body scope lpos, kpos⟩] pos) (tSortLamC T j te tb) := by
  refine ⟨fun pins s σ H Q I h => ?_⟩
  refine wpAny_Call_Name_kw (ld_blt I hg hm rfl ?_)
  have pr1 : PE X (.Call (.Name "range" pr) [e] [] pq) _ := pe_callTy (cr_range1 (X := X)) hg2 hm2 boot_range (pa_cons he pa_nil hs1) (by decide) (by decide) hs1 rfl
  refine PyProof.Rows.callWith_kw (args_cons (thn (pr1.run pins s σ H _ I h) fun u s1 hu1 => args_nil ?_) (hs2 _ rfl)) rfl rfl rfl rfl
  obtain ⟨v, H2, I2, rv, n, r, vy, kf, rfl, hrng, hn, hT, hσ, hkey, q⟩ := hu1
  obtain rfl : u = Value.ref r := rv
  have hfree : ∀ z ∈ scope.names, z.2 = .free → ∃ c, X.env.cells.lookup z.1 = some c := fun z hz e => by
    rw [L.fr z hz e]
    exact I2.ok.has y (.inl L.yc)
  show wpAny _ _ (evalAll [(do let v ← eval (.Lambda params _ scope lpos) X.env; standAt pos; pure v)]) _ _ s1
  refine wpAny_evalAll_cons (wpAny_bind (LamX.lam_make2 I2 TB hcode hmT hu hT hdef hfree fun f c' pm' ctv H3 s3 I3 eN T3 hf hfn hff hco' => wpAny_bind (wpAny_standAt (wpAny_pure (wpAny_evalAll_nil ?_)))))
  show wpAny _ _ (call (.builtin "sorted") [.ref r] [(Str.ofString "key", .ref f)]) _ _ s3
  obtain ⟨t1, t2, t3, hrg⟩ := I3.hok r _ (eN r _ hrng nt_rng)
  have hun := hr.un
  have hdp := hr.dp
  refine PySem.W.sorted_range_keyI (n := n) (T := T) kf I3 T3 hr.hd hrg ?_ ?_ (by omega) (by omega) (ksk_s1 _ _) (fun _ => ksk_l1 _ _) (fun _ => ksk_t1 _ _) (fun x' t hx => ?_) fun out l c s4 ki hD eo => ?_
  · exact small_one (by omega) (by omega) (by omega) (by omega)
  · rw [rangeSize_one]; split <;> omega
  · obtain ⟨i, hi, rfl⟩ := hx
    exact lam_turn (k := k) (j := j) (vy := vy) (tb := tb) I3 L I3.ok.frames (hr.in1.in1) hNj hσ hf hfn hff hco' (hbind _ _ _ _ _ _) (fun s H hr2 => hbody s H f c' hr2) fun H4 e4 T4 => hkey i hi H4 (fun b o q1 q2 => e4 b o (eN b o q1 q2) q2) T4
  · obtain ⟨H4, I4, n4, e4, T4⟩ := ki.adopt (o := .lst ((sortedBy kf n).map V.int)) I3 (List.mem_singleton.mpr rfl) fun H1 => ⟨by rw [List.length_map, sortedBy_len]; exact Nat.le_trans hn (by decide), out, c, vals_each eo, hD⟩
    exact ⟨.ref l, _, I4, rfl, q H4 l (fun b o q1 q2 => e4 b o (eN b o q1 q2) q2) T4 n4⟩
end
end Sb

set_option Elab.async false
set_option linter.all false
set_option maxRecDepth 100000
set_option autoImplicit false
namespace Sb
open PySem PySem.Spec PyProof.Rows L2 TL
variable {K : KX} {S : List Addr} {G : List Sl}
theorem trk_own {H : Hp} : ∀ {P : List Addr}, Trk P H → ∃ O : Ow, O.map (·.1) = P ∧ ∀ q ∈ O, H q.1 = some q.2 ∧ NT q.2
  | [], _ => ⟨[], rfl, fun q hq => nomatch hq⟩
  | a :: P, t => by
    obtain ⟨O, e, h⟩ := trk_own (P := P) fun q hq => t q (List.mem_cons_of_mem _ hq)
    obtain ⟨o, ho, n⟩ := t a (List.mem_cons_self ..)
    refine ⟨(a, o) :: O, by rw [List.map_cons, e], fun q hq => ?_⟩
    rcases List.mem_cons.mp hq with rfl | hq
    · exact ⟨ho, n⟩
    · exact h q hq
/-- sorted(range(n), key=lambda x: body): the body is read with x and y alone -/
theorem eg_sortLamC {j n : Nat} {te tb : TE} {d : Dt} (k : Int → Int) (hj : G[j]? = some (.da d)) (he : Eg K S G te (· = .int (n : Int))) (hn : n ≤ 100) (hb : ∀ i : Nat, i < n → Eg K [] [.da (.int (i : Int)), .da d] tb (· = .int (k (i : Int)))) :
    Eg K S G (tSortLamC K.tb j te tb) (· = .lst ((sortedBy k n).map Dt.int)) := fun B O σ H hh Q kk =>
  he B O σ H hh _ fun v H1 d1 hd h1 g1 dd => by
    subst hd
    cases (show v = _ from dd)
    obtain ⟨o, e1, v', rfl, dv⟩ := h1.sl j _ hj
    refine ⟨(n : Int), rfl, fun p hp => ⟨n, p, v', k, rfl, upd_same, hn, h1.tb.ext (new_ex hp), e1, fun i hi H3 eN T3 => ?_, fun H3 l eN T3 hl => ?_⟩⟩
    · have e13 : ExN H1 H3 := fun a o q nt => eN a o (new_ex hp a o q) nt
      have t3 : Trk (pof O G) H3 := h1.trk.exN e13
      obtain ⟨O', eo, ho⟩ := trk_own t3
      have ep : pof O' [.da (.int (i : Int)), .da d] = pof O G := by
        show O'.map (·.1) ++ [] = _
        rw [List.append_nil, eo]
      have hh3 : Hold K (fun _ => none) [] O' [.da (.int (i : Int)), .da d] H3 [some (.int (i : Int)), some v'] := by
        refine ⟨rfl, fun m s hm => ?_, (by rw [ep]; exact h1.nd), rfl, (fun a o q => by cases q), fun q hq => (ho q hq).1, fun q hq => (ho q hq).2, T3⟩
        match m, hm with
        | 0, hm =>
          cases hm
          exact ⟨_, rfl, _, rfl, rfl⟩
        | 1, hm =>
          cases hm
          refine ⟨_, rfl, v', rfl, ?_⟩
          rw [ep]
          exact Dn.mono (hid_monoN fun a o _ q nt => e13 a o q nt) d dv
        | m + 2, hm => simp at hm
      refine hb i hi _ O' _ H3 hh3 _ fun u H4 d4 e4 h4 g4 dn4 => ⟨?_, fun a o q nt => ?_, h4.tb⟩
      · subst e4
        exact dn4
      · by_cases ha : a ∈ pof O' [.da (.int (i : Int)), .da d]
        · rw [ep, ← eo] at ha
          obtain ⟨q', hq', rfl⟩ := List.mem_map.mp ha
          have := (ho q' hq').1
          rw [q] at this
          cases this
          exact h4.oo q' hq'
        · have := g4 a o (by rw [hid_out ha]; exact q) nt
          rw [hid_out ha] at this
          exact this
    · have h3 := ((h1.more (new_ex hp)).moreN eN T3)
      refine kk _ _ _ rfl (h3.more (new_ex hl)) ((g1.trans (hid_new hp)).trans ((hid_monoN fun a o _ e n => eN a o e n).trans (hid_new hl))) (new_lst h3.trk hl dnA_intsD)
/-- sorting by how many stand ahead -/
theorem sortedBy_mem {k : Int → Int} {n : Nat} {i : Int} (h : i ∈ sortedBy k n) : ∃ j : Nat, j < n ∧ i = (j : Int) := by
  unfold sortedBy at h
  have := (List.mergeSort_perm _ _).mem_iff.mp h
  obtain ⟨j, hj, rfl⟩ := List.mem_map.mp this
  exact ⟨j, List.mem_range.mp hj, rfl⟩
end Sb

set_option Elab.async false
set_option linter.all false
set_option maxRecDepth 100000
set_option autoImplicit false
namespace Sb
open PySem PySem.Spec PyProof.Rows L2 TL
/-! ### sorted by how many stand ahead -/
theorem plLt_mono (xs : List Int) {a b : Int} (h : plLe xs a b = true) (i : Int) (hi : plLt xs i a = true) : plLt xs i b = true := by
  unfold plLt at *
  rw [Bool.and_eq_true, Bool.not_eq_true', decide_eq_false_iff_not] at *
  refine ⟨plLe_trans xs i a b hi.1 h, fun z => hi.2 ?_⟩
  have h2 := hi.1
  rw [z] at h2 ⊢
  exact plLe_anti xs h2 h
def aheadI (bids : List Int) (i : Int) : Int := (aheadN bids i.toNat : Int)
theorem sorted_ahead (bids : List Int) : sortedBy (aheadI bids) bids.length = placesOf bids bids.length := by
  have hk : ∀ {j : Nat}, j < bids.length → aheadI bids (j : Int) = ((((List.range bids.length).map fun i : Nat => (i : Int)).countP fun i => plLt bids i (j : Int) : Nat) : Int) := fun {j} hj => by
    unfold aheadI
    rw [Int.toNat_natCast, ahead_eq bids hj]
  have mem : ∀ {a : Int}, a ∈ (List.range bids.length).map (fun i : Nat => (i : Int)) → ∃ j : Nat, j < bids.length ∧ a = (j : Int) := fun {a} h => by
    obtain ⟨j, hj, rfl⟩ := List.mem_map.mp h
    exact ⟨j, List.mem_range.mp hj, rfl⟩
  have pm1 := List.mergeSort_perm ((List.range bids.length).map fun i : Nat => (i : Int)) (fun a b => decide (aheadI bids a ≤ aheadI bids b))
  have pm2 := List.mergeSort_perm ((List.range bids.length).map fun i : Nat => (i : Int)) (plLe bids)
  have pw1 : (((List.range bids.length).map fun i : Nat => (i : Int)).mergeSort (fun a b => decide (aheadI bids a ≤ aheadI bids b))).Pairwise fun a b => aheadI bids a ≤ aheadI bids b :=
    (List.pairwise_mergeSort (le := fun a b => decide (aheadI bids a ≤ aheadI bids b)) (fun a b c h1 h2 => by rw [decide_eq_true_eq] at *; omega) (fun a b => by rw [Bool.or_eq_true, decide_eq_true_eq, decide_eq_true_eq]; omega) _).imp fun h => of_decide_eq_true h
  have pw0 : (((List.range bids.length).map fun i : Nat => (i : Int)).mergeSort (plLe bids)).Pairwise fun a b => plLe bids a b = true := List.pairwise_mergeSort (le := plLe bids) (plLe_trans bids) (plLe_total bids) _
  have pw2 : (((List.range bids.length).map fun i : Nat => (i : Int)).mergeSort (plLe bids)).Pairwise fun a b => aheadI bids a ≤ aheadI bids b := by
    refine List.Pairwise.imp_of_mem (fun {a b} ha hb h => ?_) pw0
    obtain ⟨i, hi, rfl⟩ := mem (pm2.mem_iff.mp ha)
    obtain ⟨j, hj, rfl⟩ := mem (pm2.mem_iff.mp hb)
    rw [hk hi, hk hj]
    exact Int.ofNat_le.mpr (List.countP_mono_left fun x _ hx => plLt_mono bids h x hx)
  unfold sortedBy
  rw [show (PySem.W.dataLe false fun x => PyData.int (aheadI bids x)) = fun a b => decide (aheadI bids a ≤ aheadI bids b) from PySem.W.dataLe_int (aheadI bids), placesOf_eq]
  refine List.Perm.eq_of_pairwise (le := fun a b => aheadI bids a ≤ aheadI bids b) (fun a b ha hb h1 h2 => ?_) pw1 pw2 (pm1.trans pm2.symm)
  obtain ⟨i, hi, rfl⟩ := mem (pm1.mem_iff.mp ha)
  obtain ⟨j, hj, rfl⟩ := mem (pm2.mem_iff.mp hb)
  have e := Int.le_antisymm h1 h2
  rw [hk hi, hk hj] at e
  have e := Int.ofNat.inj e
  have p1 := places_at bids hi
  have p2 := places_at bids hj
  rw [e] at p1
  exact Option.some.inj (p1.symm.trans p2)
/-! ### rules of one row -/
theorem lines0 {seats : List Str} (h : SeatsOk seats) : LinesOk seats [] := ⟨Nat.zero_le _, (fun x hx => by cases hx), (by show (seats ++ []).Nodup; rw [List.append_nil]; exact h.nd), (fun i l e => by simp at e)⟩
theorem rows1 {seats : List Str} {d : Deed} (h : d.ok seats (seats ++ nmL [])) : RowsOk seats (seats ++ nmL []) [⟨none, d⟩] := by
  refine ⟨Nat.le_refl _, by show 1 ≤ 6; decide, fun r hr => ?_, fun i r e => ?_⟩
  · rw [List.mem_singleton.mp hr]
    exact ⟨h, fun c z => by cases z⟩
  · match i, e with
    | 0, e =>
      cases e
      rfl
    | i + 1, e => simp at e
theorem plan1 {seats : List Str} {d : Deed} (hs : SeatsOk seats) (h : d.ok seats (seats ++ nmL [])) : PlanOk seats [] [⟨none, d⟩] := ⟨hs, lines0 hs, rows1 h⟩
theorem out1 (seats : List Str) (d : Deed) (bids : List Int) : outG seats [] [⟨none, d⟩] bids = resG seats bids (seats.zip bids) d := by
  unfold outG
  rw [firstD_pos (by rfl)]
  rfl
theorem val_idx {seats : List Str} {bids : List Int} (hs : SeatsOk seats) (hl : bids.length = seats.length) {j : Nat} {x : Str} (hj : seats[j]? = some x) : (Pt.nm x).val (seats.zip bids) = bids.getD j 0 := by
  have h1 : j < seats.length := (List.getElem?_eq_some_iff.mp hj).1
  have hb : bids[j]? = some (bids.getD j 0) := by
    rw [List.getD_eq_getElem?_getD, List.getElem?_eq_getElem (by omega)]
    rfl
  have hm : (x, bids.getD j 0) ∈ seats.zip bids := List.mem_of_getElem? (i := j) (by rw [List.getElem?_zip_eq_some]; exact ⟨hj, hb⟩)
  show ((seats.zip bids).lookup x).getD 0 = _
  rw [lookup_of_mem (by rw [zip_keys hl]; exact hs.nd) hm]
  rfl
theorem idx_of {seats : List Str} {x : Str} (h : x ∈ seats) : ∃ j : Nat, seats[j]? = some x ∧ ∀ m : Nat, m < j → seats[m]? ≠ some x := by
  induction seats with
  | nil => cases h
  | cons a seats ih =>
    by_cases e : a = x
    · exact ⟨0, by rw [e]; rfl, fun m hm => by omega⟩
    · obtain ⟨j, h1, h2⟩ := ih ((List.mem_cons.mp h).resolve_left fun z => e z.symm)
      refine ⟨j + 1, by simpa using h1, fun m hm => ?_⟩
      match m, hm with
      | 0, _ => simpa using e
      | m + 1, hm => simpa using h2 m (by omega)
end Sb

set_option Elab.async false
set_option linter.all false
set_option maxRecDepth 100000
set_option autoImplicit false
namespace Sb
open PySem PySem.Spec PyProof.Rows L2
/-! ### a def with a source that makes lambdas, where nothing is being shown -/
section
variable {P : Program} {w : World} {K : KX} {mg : Str → Option Value} {base : Heap}
theorem fun_okGC {x qual : Str} {st : Stmt} {f : Addr} {fd : FuncData} {N ps : List Str} {k : Nat} {sp : Sp}
    (F : Fun K x qual st f fd) (Sc : FnScope N ps (defScope st)) (ln : ∀ vs H Q E, sp vs H Q E → vs.length = ps.length)
    (hbody : ∀ (cdv : Value), fd.code = cdv → ∀ (A : Around) (outer : List Env) (s : Shared) (H : Hp) (vs : List V) (Q : VK) (E : XK),
      A.guards = some [] → Room k (A.deeper (envOfC qual (defScope st) s.heap.objs.size f cdv)) → sp vs H Q E →
      ∃ t, PSs (cxOf CX0 P w K mg base N qual (defScope st) f cdv A outer s H E).nox (defBody st) t ∧
        t { nx := fun _ H' => Q .non H', rt := Q } (L2.start N vs) H) : FnG P w K mg base (k + 1) f fd ps sp := by
  obtain ⟨oc, od, kV, doc, pm, an, cdv, ct, osl, rfl, lk, hcd⟩ := F.ex
  refine ⟨ln, fun A outer s H ar us vs Q E gd room e0 bnd rel want => ?_⟩
  have inK : K.fr.In s.heap := e0.mod.kin.keeps fun b o q => (e0.bs b o q).1
  have nolim : s.heap.NoLimit := e0.mod.nolimit.keeps fun b o q => (e0.bs b o q).1
  refine codeAny_call_function room.depth (inK _ _ lk) rfl Sc.co Sc.gen rfl (PySem.W.codeRec_of inK hcd) (bnd _ _ _ _ ?_)
  refine wpAny_newFunctionEnv_cells Sc.kind (fun ⟨n, v⟩ hy => ?_) fun env he s1 xx => ?_
  · rcases Sc.par n (List.of_mem_zip hy).1 with q | q
    · left
      exact q
    · right
      exact ⟨q, PySem.W.cellsFrom_some _ _ _ (.inl q)⟩
  · subst he
    refine ⟨nolim.keeps xx.toInCall.keep, codeAny_func ?_⟩
    obtain ⟨t, ht, hq⟩ := hbody cdv rfl A outer s H vs Q E gd (room.deeper _) want
    have I0 := inv_start (CX := CX0) (E := E) Sc room.hd e0 (ln _ _ _ _ want) rel xx
    refine wpAny_mono (ht.nox.run [] s1 (L2.start N vs) H _ I0 hq) (fun fl s2 hs => ?_) fun _ _ hs => hs
    cases fl with
    | ret u =>
      obtain ⟨v, σ2, H2, J, rv, q⟩ := hs
      exact ⟨v, H2, J.os, J.bare, J.base, J.hok, rv, q⟩
    | next =>
      obtain ⟨σ2, H2, J, q⟩ := hs
      exact ⟨V.non, H2, J.os, J.bare, J.base, J.hok, rfl, q⟩
    | brk =>
      obtain ⟨_, _, _, q⟩ := hs
      exact q.elim
    | cont =>
      obtain ⟨_, _, _, q⟩ := hs
      exact q.elim
variable {al : Type} {rep : al → List Dt} {ok : al → Prop} {post : al → Dt → Prop}
theorem fnG_xsC {x qual : Str} {st : Stmt} {f : Addr} {fd : FuncData} {y : Str} {N ps : List Str} {k : Nat} (F : Fun K x qual st f fd) (Sc : FnScope (y :: N) (y :: ps) (defScope st)) (hl : ∀ a, (rep a).length = ps.length)
    (hb : ∀ (cdv : Value), fd.code = cdv → ∀ (A : Around) (outer : List Env) (s : Shared) (H : Hp) (E : XK), A.guards = some [] → Room k (A.deeper (envOfC qual (defScope st) s.heap.objs.size f cdv)) →
      ∃ t, PSs (cxOf CX0 P w K mg base (y :: N) qual (defScope st) f cdv A outer s H E).nox (defBody st) t ∧ ∀ p a, ok a → Run K [p] t (.sr p :: fr0 (rep a) N.length) (fun _ => post a .non) (post a) (fun _ => False)) :
    FnG P w K mg base (k + 1) f fd (y :: ps) (spXS K rep ok post) := by
  refine fun_okGC F Sc (fun vs H Q E h => ?_) fun cdv ec A outer s H vs Q E gd hr h => ?_
  · obtain ⟨a, _, _, p, ds, ws, rfl, _, _, _, _, _, d, rfl, _⟩ := h
    rw [List.length_cons, DnA.len d, hl a]
    rfl
  · obtain ⟨t, h1, h2⟩ := hb cdv ec A outer s H E gd hr
    obtain ⟨a, oka, h⟩ := h
    exact ⟨t, h1, endS h fun p ds e => by subst e; exact h2 p a oka⟩
end
/-! ### the law's own call, where some defs make lambdas: (code object, table), empty at first -/
section
variable {P : Program} {w : World} {K : PySem.W.Frag} {mg mb : Str → Option Value} {k : Nat} {fa a : Addr} {ts : List (Addr × Addr)} {fd : FuncData} {x : Str} {sp : Sp} {s1 : Shared} {vs : List Value} {ns : List Int}
theorem ground_gets {h : Heap} {H : Hp} (hA : ∀ b, H b ≠ none → b = a ∨ b ∈ ts.map (·.2)) (ha : h.get? a = some { cls := .type "list", data := .seq vs.toArray }) (hT : ∀ b ∈ ts.map (·.2), h.get? b = some { cls := .none, data := .fields #[] }) {b : Addr} {o : Obj} (e : h.get? b = some o)
    (n1 : ∀ ws m, o.data ≠ .seq ws m) (n2 : o.data ≠ .fields #[]) : (hidT h H).get? b = some o := by
  refine hidT_get e ?_
  cases z : H b with
  | none => rfl
  | some u =>
    rcases hA b (by rw [z]; simp) with q | q
    · rw [q, ha] at e
      cases e
      exact (n1 _ _ rfl).elim
    · rw [hT b q] at e
      cases e
      exact (n2 rfl).elim
theorem lawGTs (KIn : K.In s1.heap) (hns : s1.heap.Ns mainGlobals mg) (hb : s1.heap.Ns builtinsNs mb) (hbb : ∀ x : Str, x ≠ "__name__" → mb x = bootBuiltins x) (lim : s1.heap.NoLimit) (gens : s1.gens = #[])
    (hT : ∀ b ∈ ts.map (·.2), s1.heap.get? b = some { cls := .none, data := .fields #[] }) (nT : ∀ b ∈ ts.map (·.2), K.lookup b = none) (hC : ∀ p ∈ ts, PySem.W.CodeHd s1.heap p.1 p.2)
    (hbm : ∃ (bm : Addr) (ob : Obj), mg "__builtins__" = some (.ref bm) ∧ bm ≠ builtinsNs ∧ s1.heap.get? bm = some ob ∧ ob.cls = .type "module" ∧ ob.dict = some builtinsNs ∧ ob.data = .plain)
    (ha : s1.heap.get? a = some { cls := .type "list", data := .seq vs.toArray }) (hi : IntsAre vs ns) (hl : ns.length ≤ sizeLine) (room : Room k callerA)
    (F : ∀ base : Heap, K.In base → base.Ns mainGlobals mg → (∀ p ∈ ts, LamX.TabB base mg p.1 p.2) → FnG P w K mg base k fa fd [x] sp)
    (bnd : ∀ (s : Shared) (u : Value), BindsTo s fd ⟨[u], []⟩ [(x, u)])
    (want : ∀ H : Hp, (∀ b ∈ ts.map (·.2), H b = some (.tbl #[])) → SqL K H a (ns.map V.int) → sp [.ref a] H (fun v _ => v = .bl true) fun _ _ _ => False) :
    codeAny (model P w) callerA (.call (.ref fa) ⟨[.ref a], []⟩) (fun r s2 => r = .ok (.ret (.bool true)) ∧ OldK s1.heap s2.heap ∧ s2.os = s1.os ∧ AllBare s2.gens) s1 := by
  have rv := vals_ints hi
  have lenV := hi.length
  have aT : a ∉ ts.map (·.2) := fun z => by
    rw [hT a z] at ha
    cases ha
  have main : ∀ H : Hp, (∀ b ∈ ts.map (·.2), H b = some (.tbl #[])) → (∀ b, b ∉ ts.map (·.2) → H b = none ∨ ∃ o xs, H b = some (.frz o (.lst xs))) → SqL K H a (ns.map V.int) → HOk P w H s1.heap → (∀ b, H b ≠ none → b = a ∨ b ∈ ts.map (·.2)) → (H a ≠ none → K.lookup a = none) →
      codeAny (model P w) callerA (.call (.ref fa) ⟨[.ref a], []⟩) (fun r s2 => r = .ok (.ret (.bool true)) ∧ OldK s1.heap s2.heap ∧ s2.os = s1.os ∧ AllBare s2.gens) s1 := by
    intro H hHT hO hS hok hA hK
    have gg : ∀ {b : Addr} {o : Obj}, s1.heap.get? b = some o → (∀ ws m, o.data ≠ .seq ws m) → o.data ≠ .fields #[] → (hidT s1.heap H).get? b = some o := fun e n1 n2 => ground_gets hA ha hT e n1 n2
    have ns2 : ∀ {b : Addr} {m : Str → Option Value}, s1.heap.Ns b m → (hidT s1.heap H).Ns b m := by
      rintro b m ⟨o, es, ep, q, d, r⟩
      exact ⟨o, es, ep, gg q (fun ws m z => by rw [d] at z; cases z) (fun z => by rw [d] at z; cases z), d, r⟩
    have kb : K.In (hidT s1.heap H) := by
      intro b o q
      refine hidT_get (KIn b o q) ?_
      cases z : H b with
      | none => rfl
      | some u =>
        rcases hA b (by rw [z]; simp) with e | e
        · rw [e] at z q
          rw [hK (by rw [z]; simp)] at q
          cases q
        · rw [nT b e] at q
          cases q
    have lim2 : (hidT s1.heap H).NoLimit := by
      obtain ⟨mc, q1, q2⟩ := lim
      exact ⟨mc, ns2 q1, q2⟩
    have tb : ∀ p ∈ ts, LamX.TabB (hidT s1.heap H) mg p.1 p.2 := fun p hp => by
      have hp2 : p.2 ∈ ts.map (·.2) := List.mem_map_of_mem hp
      have hTp := hT p.2 hp2
      refine ⟨?_, ?_, fun z => ?_⟩
      · obtain ⟨o, us, file, tf, flags, tg, inF, text, tt, e1, r1, r2, r3, rest⟩ := hC p hp
        exact ⟨o, us, file, tf, flags, tg, inF, text, tt, gg e1 (fun ws m z => by rw [r2] at z; cases z) (fun z => by rw [r2] at z; cases z; simp at r3), r1, r2, r3, rest⟩
      · obtain ⟨bm, ob, b1, b2, b3, b4, b5, b6⟩ := hbm
        have nG : bm ≠ mainGlobals := fun z => by
          obtain ⟨o, es, ep, e, d, _⟩ := hns
          rw [z, e] at b3
          cases b3
          rw [d] at b6
          cases b6
        have nP : bm ≠ p.2 := fun z => by
          rw [z, hTp] at b3
          cases b3
          cases b6
        exact ⟨bm, ob, b1, b2, nG, nP, gg b3 (fun ws m z => by rw [b6] at z; cases z) (fun z => by rw [b6] at z; cases z), b4, b5, b6⟩
      · obtain ⟨o, es, ep, e, d, _⟩ := hns
        rw [z, hTp] at e
        cases e
        cases d
    have e0 : Env0 P w K mg (hidT s1.heap H) callerA [] s1 H :=
      { frames := rfl
        mod := ⟨kb, ns2 hns, ⟨mb, ns2 hb, hbb⟩, lim2⟩
        bs := fun b o q => of_hidT q
        bsz := Nat.le_of_eq (hidT_size _ _)
        funs := trivial
        frf := fun b hb => absurd (show b ∈ ([] : List Addr) from hb) (by simp)
        hok := hok
        bare := .of_eq gens }
    refine codeAny_mono ((F _ kb (ns2 hns) tb).go callerA [] s1 H ⟨[.ref a], []⟩ [.ref a] [.ref a] _ _ rfl room e0 (bnd s1 (.ref a)) (.cons rfl .nil) (want H hHT hS)) fun r s2 h => ?_
    cases r with
    | error z => exact (show False from h).elim
    | ok fl =>
      cases fl with
      | next => exact (show False from h).elim
      | brk => exact (show False from h).elim
      | cont => exact (show False from h).elim
      | ret u =>
        obtain ⟨v, H2, os, bare, un, hok2, rel, q⟩ := h
        have q1 : v = .bl true := q
        subst q1
        obtain rfl : u = Value.bool true := rel
        have old : ∀ b o, b ∉ ts.map (·.2) → s1.heap.get? b = some o → s2.heap.get? b = some o := fun b o nb z => by
          rcases hO b nb with y | ⟨ob, xs, n⟩
          · exact un.keep b o z y (fun m => absurd (show b ∈ ([] : List Addr) from m) (by simp)) (by simp)
          · have n2 := un.frzs b ob _ n
            have i1 := (hok b _ n).1
            have i2 := (hok2 b _ n2).1
            rw [z] at i1
            cases i1
            exact i2
        have htab : ∀ b ∈ ts.map (·.2), ∃ more : Array Value, s2.heap.get? b = some { cls := .none, data := .fields (#[] ++ more) } := fun b hb => by
          obtain ⟨more, z⟩ := un.tbls b #[] (hHT b hb)
          exact ⟨more, hok2 b _ z⟩
        refine ⟨rfl, ⟨fun b o e => ?_, fun b o e => ?_⟩, os, bare⟩
        · by_cases hb : b ∈ ts.map (·.2)
          · obtain ⟨more, hm⟩ := htab b hb
            rw [hT b hb] at e
            cases e
            obtain ⟨p, hp, rfl⟩ := List.mem_map.mp hb
            exact .inr (.inl ⟨((hC p hp).tab (hT _ hb)).isCodeTable, rfl, #[], more, rfl, hm⟩)
          · exact .inl (old b o hb e)
        · by_cases hb : b ∈ ts.map (·.2)
          · obtain ⟨more, hm⟩ := htab b hb
            exact ⟨_, hm⟩
          · exact ⟨o, old b o hb e⟩
  cases hk : K.lookup a with
  | some o =>
    have q := KIn a o hk
    rw [ha] at q
    cases q
    refine main (fun b => if b ∈ ts.map (·.2) then some (.tbl #[]) else none) (fun b hb => if_pos hb) (fun b nb => .inl (if_neg nb)) (.inr ⟨_, vs.toArray, _, hk, rfl, rfl, rfl, by rw [List.size_toArray, lenV]; exact hl, by simpa using rv⟩) (fun b u z => ?_) (fun b z => ?_) fun z => absurd (if_neg aT) z
    · by_cases hb : b ∈ ts.map (·.2)
      · have z2 := (if_pos hb).symm.trans z
        cases z2
        exact hT b hb
      · have z2 := (if_neg hb).symm.trans z
        cases z2
    · by_cases hb : b ∈ ts.map (·.2)
      · exact .inr hb
      · exact absurd (if_neg hb) z
  | none =>
    refine main (fun b => if b ∈ ts.map (·.2) then some (.tbl #[]) else if b = a then some (.frz { cls := .type "list", data := .seq vs.toArray } (.lst (ns.map V.int))) else none) (fun b hb => if_pos hb) (fun b nb => ?_) (.inl (.inr ⟨_, (if_neg aT).trans (if_pos rfl)⟩)) (fun b u z => ?_) (fun b z => ?_) fun _ => hk
    · by_cases hb : b = a
      · exact .inr ⟨_, _, (if_neg nb).trans (if_pos hb)⟩
      · exact .inl ((if_neg nb).trans (if_neg hb))
    · by_cases hb : b ∈ ts.map (·.2)
      · have z2 := (if_pos hb).symm.trans z
        cases z2
        exact hT b hb
      · have z1 := (if_neg hb).symm.trans z
        by_cases hb2 : b = a
        · have z2 := (if_pos hb2).symm.trans z1
          cases z2
          rw [hb2]
          exact ⟨ha, by rw [List.length_map]; exact hl, vs, _, rv, ha⟩
        · have z2 := (if_neg hb2).symm.trans z1
          cases z2
    · by_cases hb : b ∈ ts.map (·.2)
      · exact .inr hb
      · by_cases hb2 : b = a
        · exact .inl hb2
        · exact absurd ((if_neg hb).trans (if_neg hb2)) z
end
/-- .. for a list of (code object, table, name of the lambda) -/
theorem walkGTs {l : PySem.W.OpenLaw} {n k : Nat} {q : Program} {loose : List Str} {XP : (Str → Option Value) → Heap → Prop} {YP : World → Heap → Prop} {d : DefRec} {K : Params → PySem.W.Frag} {sp : KX → Sp} {x : Str} (hn : l.most = some n) (hn2 : n ≤ sizeLine) (hdf : d.params.defaults = []) (room : Room k callerA)
    (hY : ∀ (w : World) (h : Heap), YP w h → (K w.params).In h)
    (F : ∀ (w : World) (mg : Str → Option Value) (fa : Addr) (h : Heap), YP w h → (K w.params).In h → h.Ns mainGlobals mg → mg d.name = some (.ref fa) →
      ∃ (fd : FuncData) (ts : List (Addr × Addr × Str)), (∀ p ∈ ts, h.get? p.2.1 = some { cls := .none, data := .fields #[] } ∧ (K w.params).lookup p.2.1 = none ∧ PySem.W.CodeHd h p.1 p.2.1) ∧ (∀ (s : Shared) (u : Value), BindsTo s fd ⟨[u], []⟩ [(x, u)]) ∧
        ∀ base : Heap, (K w.params).In base → base.Ns mainGlobals mg → (∀ p ∈ ts, LamX.TabB base mg p.1 p.2.1) → FnG l.prog w (K w.params) mg base k fa fd [x] (sp ⟨K w.params, ts.map (·.2)⟩))
    (want : ∀ (K : KX) (H : Hp) (a : Addr) (ns : List Int), ns.length ≤ n → Tb K H → SqL K H a (ns.map V.int) → sp K [.ref a] H (fun v _ => v = .bl true) fun _ _ _ => False) :
    PySem.W.WalkO q loose XP YP l.row.toRowW d [] (fun f vs => PySem.call f vs) := by
  refine Att.attach_call hn hdf fun w s0 s1 mg mb fa o pm cd doc a vs ns Gr Y ho hd hcd hmg hobj hints hlen hg => ?_
  have KIn := hY w _ Y
  obtain ⟨fd, ts, h1, hb, hF⟩ := F w mg fa _ Y KIn Gr.T.g hmg
  have mm : ∀ b ∈ (ts.map fun p => (p.1, p.2.1)).map (·.2), ∃ p ∈ ts, b = p.2.1 := fun b hb => by
    rw [List.map_map] at hb
    obtain ⟨p, hp, rfl⟩ := List.mem_map.mp hb
    exact ⟨p, hp, rfl⟩
  refine lawGTs (ts := ts.map fun p => (p.1, p.2.1)) KIn Gr.T.g Gr.T.b Gr.T.builtins Gr.T.nolimit hg (fun b hb => ?_) (fun b hb => ?_) (fun p hp => ?_) Gr.T.bmain hobj hints (Nat.le_trans hlen hn2) room (fun base b1 b2 b3 => hF base b1 b2 fun p hp => b3 (p.1, p.2.1) (List.mem_map.mpr ⟨p, hp, rfl⟩)) hb fun H hH hS => ?_
  · obtain ⟨p, hp, rfl⟩ := mm b hb
    exact (h1 p hp).1
  · obtain ⟨p, hp, rfl⟩ := mm b hb
    exact (h1 p hp).2.1
  · obtain ⟨p, hq, rfl⟩ := List.mem_map.mp hp
    exact (h1 p hq).2.2
  · refine want ⟨K w.params, ts.map (·.2)⟩ H a ns hlen (fun p hp => ?_) hS
    obtain ⟨p, hq, rfl⟩ := List.mem_map.mp hp
    exact LamX.TabS.nil (hH p.2.1 (by rw [List.map_map]; exact List.mem_map.mpr ⟨p, hq, rfl⟩))
end Sb

set_option Elab.async false
set_option linter.all false
set_option maxRecDepth 100000
set_option autoImplicit false
namespace Sb
open PySem PySem.Spec PyProof.Rows L2 TL
abbrev s__law_right : Stmt := top 54
abbrev N__law_right : List Str := ["_law_source_here", "_law_plan", "_law_seats_here", "_law_turn", "_law_offers_here", "_law_places", "_law_k", "_law_price", "_law_paid", "_law_mine"]
abbrev A__law_right : List Str := ["_law_source_here"]
theorem sc__law_right : FnScope N__law_right A__law_right (defScope s__law_right) :=
  ⟨rfl, rfl, rfl, by decide +kernel, rfl, by decide +kernel, by decide +kernel⟩
section
variable {P : Program} {w : World} {K : KX} {mg : Str → Option Value} {base : Heap} {aS aO C : Addr} {S : List Addr} {G : List Sl}
def GQ4 (p : Addr) (seats : List Str) (s3 s4 s5 s6 s7 s8 s9 : Sl) : List Sl := [.sr p, .da (planD seats [] []), .da (.lst (strsD seats)), s3, s4, s5, s6, s7, s8, s9]
theorem seat_get {seats : List Str} {i : Nat} (h : i < seats.length) : (strsD seats)[i]? = some (Dt.str (seats.getD i sKeep)) := by
  unfold strsD
  rw [List.getElem?_map, List.getElem?_eq_getElem h, List.getD_eq_getElem?_getD, List.getElem?_eq_getElem h]
  rfl
theorem seat_mem {seats : List Str} {i : Nat} (h : i < seats.length) : seats.getD i sKeep ∈ seats := by
  rw [List.getD_eq_getElem?_getD, List.getElem?_eq_getElem h]
  exact List.getElem_mem h
/-- 'sell W at P' -/
theorem ed_sell {ta tb : TE} {ns seats : List Str} {ww : Who} {q : Pt} (hs : NamesOk seats) (n9 : seats.length ≤ 9) (hn : NamesOk ns) (hw : ww.ok seats) (hq : q.ok ns) (ha : Eg K S G ta (· = .str ww.txt)) (hb : Eg K S G tb (· = .str q.txt)) :
    Eg K S G (tOp (rAddA K) (tOp (rAddA K) (tOp (rAddA K) (tC (.str sSell2)) ta) (tC (.str sAt2))) tb) (· = .str (Deed.sell ww q).txt) := by
  have l1 : sSell2.length = 5 := by decide +kernel
  have l2 : sAt2.length = 4 := by decide +kernel
  have l3 := (Who.word hs n9 hw).2
  have l4 := (Pt.word hn hq).2
  exact eg_eq (ed_addS (ed_addS (ed_addS (i := sSell2) eg_str ha (by omega)) (j := sAt2) eg_str (by rw [Str.length_append]; omega)) hb (by rw [Str.length_append, Str.length_append]; omega)) (congrArg Dt.str (sell_txt _ _))
set_option maxHeartbeats 1000000 in
theorem ok__law_right {f : Addr} {fd : FuncData} (F : Fun K "_law_right" "_law_right" s__law_right f fd) (B : Bf K mg aS aO) (n_sorted : mg "sorted" = none) (tf : TabF K mg base fd ("_law_right" ++ ".<locals>." ++ "<lambda>")) (c__law_take : Cal P w K mg base 1 "_law_take" (sp_take K)) (c__law_names : Cal P w K mg base 2 "_law_names" (sp_lnames K))
    (c__law_piece : Cal P w K mg base 2 "_law_piece" (sp_piece K)) (c__law_offers : Cal P w K mg base 2 "_law_offers" (sp_offers K)) (c__law_ahead : Cal P w K mg base 1 "_law_ahead" (sp_ahead K)) (c_Rule : Mak P w K mg base 6 "Rule" C (sp_RuleL K C))
    (m_outcome : Met P w K mg base 5 C "outcome" (sp_outG K C)) (k_outcome : MetK P w K mg base 5 C "outcome" ["bids"] (sp_outG K C) kap) : FnG P w K mg base 9 f fd A__law_right (sp_right K) := by
  refine fnG_xsC F sc__law_right (fun _ => rfl) fun cdv ec A outer s H E gd hr => ?_
  obtain ⟨c, Ptb, hc, TB, hmT, hu⟩ := tf.ex
  have hcode : cdv = .ref c := ec.symm.trans hc
  refine ⟨_, (pss_cons (ps_set (i := 1) sc__law_right.nd rfl (Or.inl rfl) (pe_lst (pa_cons (pe_c c__law_names hr (by decide) (by rfl) (pa_cons (pv 0) (pa_cons (pe_op (op_addK (K := K)) pe_int (pe_c c__law_take hr (by decide) (by rfl) (pa_cons (pv 0) (pa_cons pe_int pa_nil)))) pa_nil))) (pa_cons (pe_lst pa_nil) (pa_cons (pe_lst pa_nil) pa_nil))))) (pss_cons (ps_set (i := 2) sc__law_right.nd rfl (Or.inl rfl) (pe_ix (ix_anyK (K := K)) (pv 1) pe_int (fun _ _ => rfl))) (pss_cons (ps_for PassesOwn.never rfl (pi_range1 rfl B.n_range (pa_cons pe_int pa_nil)) (pg_name (i := 3) sc__law_right.nd rfl (Or.inl rfl)) (pss_cons (ps_set (i := 4) sc__law_right.nd rfl (Or.inr rfl) (pe_c c__law_offers hr (by decide) (by rfl) (pa_cons (pv 0) (pa_cons (pv 1) pa_nil)))) (pss_cons (ps_set (i := 5) sc__law_right.nd rfl (Or.inl rfl) (pe_sortLamC (T := K.tb) (j := 4) (x := "_law_k") (y := "_law_offers_here") (by rfl) n_sorted (by rfl) B.n_range (pe_callB (call_lenK (K := K)) (by rfl) B.n_len (by decide +kernel) (pa_cons (pv 2) pa_nil)) hr TB hcode hmT hu rfl (fun _ _ _ _ _ _ => rfl) ⟨rfl, rfl, rfl, by decide +kernel, rfl, rfl, by decide +kernel, rfl⟩ rfl (fun s H f c hr2 => pe_c c__law_ahead hr2 (by decide) (by rfl) (pa_cons (pe_var (i := 1) rfl (.inr (.inr rfl))) (pa_cons (pe_var (i := 0) rfl (.inl rfl)) pa_nil))))) (pss_cons (ps_for PassesOwn.never rfl (pi_range1 rfl B.n_range (pa_cons (pe_callB (call_lenK (K := K)) (by rfl) B.n_len (by decide +kernel) (pa_cons (pv 2) pa_nil)) pa_nil)) (pg_name (i := 6) sc__law_right.nd rfl (Or.inl rfl)) (pss_cons (ps_set (i := 7) sc__law_right.nd rfl (Or.inl rfl) (pe_c c__law_piece hr (by decide) (by rfl) (pa_cons (pv 0) (pa_cons (pv 2) pa_nil)))) (pss_cons (ps_set (i := 8) sc__law_right.nd rfl (Or.inl rfl) (pe_ifExp (pt_val (pe_callB (call_isiQ (K := K)) (by rfl) B.n_isinstance (by decide +kernel) (pa_cons (pv 7) (pa_cons (pe_bltn (v := .ty "int") (by rfl) B.n_int (by decide +kernel) rfl) pa_nil)))) (pv 7) (pe_ix (ix_anyK (K := K)) (pv 4) (pe_index (K := K) (pv 2) (pa_cons (pv 7) pa_nil)) (fun _ _ => rfl)))) (pss_cons (ps_set (i := 9) sc__law_right.nd rfl (Or.inl rfl) (pe_mk c_Rule hr (by decide) (by rfl) (pa_cons (pe_callTy (call_tupK (K := K)) (by rfl) B.n_tuple (by decide +kernel) (pa_cons (pv 2) pa_nil)) (pa_cons (pe_tup pa_nil) (pa_cons (pe_tup (pa_cons (pe_op (op_addK (K := K)) (pe_op (op_addK (K := K)) (pe_op (op_addK (K := K)) pe_str (pe_callTy call_strA (by rfl) B.n_str (by decide +kernel) (pa_cons (pe_op (op_addK (K := K)) (pv 6) pe_int) pa_nil))) pe_str) (pe_callTy call_strA (by rfl) B.n_str (by decide +kernel) (pa_cons (pv 7) pa_nil))) pa_nil)) pa_nil))))) (pss_cons (ps_if (pt_cmpR (op_neK (K := K) hr.units) (pe_callB (call_reprK (K := K) gd hr.units) (by rfl) B.n_repr (by decide +kernel) (pa_cons (pe_mt m_outcome hr (by decide) (pv 9) (pa_cons (pv 4) pa_nil)) pa_nil)) (pe_callB (call_reprK (K := K) gd hr.units) (by rfl) B.n_repr (by decide +kernel) (pa_cons (pe_tup (pa_cons (pe_ix (ix_anyK (K := K)) (pv 2) (pe_ix (ix_anyK (K := K)) (pv 5) (pv 6) (fun _ _ => rfl)) (fun _ _ => rfl)) (pa_cons (pv 8) pa_nil))) pa_nil)) (nomark _)) (pss_one (ps_ret pe_bl)) pss_nil) (pss_cons (ps_set (i := 9) sc__law_right.nd rfl (Or.inl rfl) (pe_mk c_Rule hr (by decide) (by rfl) (pa_cons (pe_callTy (call_tupK (K := K)) (by rfl) B.n_tuple (by decide +kernel) (pa_cons (pv 2) pa_nil)) (pa_cons (pe_tup pa_nil) (pa_cons (pe_tup (pa_cons (pe_op (op_addK (K := K)) (pe_op (op_addK (K := K)) (pe_op (op_addK (K := K)) pe_str (pe_ix (ix_anyK (K := K)) (pv 2) (pv 6) (fun _ _ => rfl))) pe_str) (pe_callTy call_strA (by rfl) B.n_str (by decide +kernel) (pa_cons (pv 7) pa_nil))) pa_nil)) pa_nil))))) (pss_one (ps_if (pt_cmpR (op_neK (K := K) hr.units) (pe_callB (call_reprK (K := K) gd hr.units) (by rfl) B.n_repr (by decide +kernel) (pa_cons (pe_methK k_outcome hr (by decide) (pv 9) (pk_cons (pv 4) pk_nil)) pa_nil)) (pe_callB (call_reprK (K := K) gd hr.units) (by rfl) B.n_repr (by decide +kernel) (pa_cons (pe_tup (pa_cons (pe_ix (ix_anyK (K := K)) (pv 2) (pv 6) (fun _ _ => rfl)) (pa_cons (pv 8) pa_nil))) pa_nil)) (nomark _)) (pss_one (ps_ret pe_bl)) pss_nil)))))))) (pss_one (ps_if (pt_cmpR op_notN1 (pe_mt m_outcome hr (by decide) (pe_mk c_Rule hr (by decide) (by rfl) (pa_cons (pe_callTy (call_tupK (K := K)) (by rfl) B.n_tuple (by decide +kernel) (pa_cons (pv 2) pa_nil)) (pa_cons (pe_tup pa_nil) (pa_cons (pe_tup (pa_cons pe_str pa_nil)) pa_nil)))) (pa_cons (pv 4) pa_nil)) pe_non (nomark _)) (pss_one (ps_ret pe_bl)) pss_nil)))))) (pss_one (ps_ret pe_bl))))), fun p _ _ => ?_⟩
  refine q_setP (i := 1) (p := fun d => ∃ seats, d = planD seats [] [] ∧ SeatsOk seats) (eg_lst (px := fun ds => ∃ seats, ds = [.lst (strsD seats), .lst [], .lst []] ∧ SeatsOk seats) (ea_cons (px := fun d => ∃ seats, d = .lst (strsD seats) ∧ SeatsOk seats)
    (eg_callXS (px := fun ds => ∃ n : Nat, (1 ≤ n ∧ n ≤ 4) ∧ ds = [.int (n : Int)]) rfl (ea_cons (ed_1take (N := 4) rfl eg_int (by decide) (by decide)) ea_nil fun a b ⟨n, ea, h⟩ eb => ⟨n, h, by rw [ea, eb]⟩)
      fun ds ⟨n, h, e⟩ => ⟨n, e, by show n ≤ 20; omega, fun d ⟨names, ed, hl, hok, hnd⟩ => ⟨names, ed, ⟨by omega, by omega, hok, hnd⟩⟩⟩)
    (ea_2 (ed_lst ea_nil (by show 0 ≤ 100000; decide)) (ed_lst ea_nil (by show 0 ≤ 100000; decide))) fun x y ⟨seats, ex, h⟩ ey => ⟨seats, by rw [ex, ey], h⟩) fun ds ⟨seats, e, h⟩ => ⟨by rw [e]; show 3 ≤ 100000; decide, seats, by rw [e]; rfl, h⟩) fun d hd => ?_
  obtain ⟨seats, rfl, hS⟩ := hd
  have n1 := hS.n1
  have n4 := hS.n4
  have hW : PlanW seats [] [] := ⟨hS, lines0 hS, Nat.zero_le _, fun r hr => by cases hr⟩
  refine q_set (i := 2) (d := .lst (strsD seats)) (ed_ixL (ds := [.lst (strsD seats), .lst [], .lst []]) (eg_var rfl) eg_int at0) ?_
  have lenS : ∀ {S : List Addr} {G : List Sl}, G[2]? = some (.da (.lst (strsD seats))) → Eg K S G (tCB (rLenA K) (tCons (tVar 2) tNil)) (· = .int (seats.length : Int)) := fun {S G} h => ed_cb (ea_1 (eg_var h)) (rc_len (n := seats.length) (d := .lst (strsD seats)) (by show some _ = some _; rw [strsD_len]) (by omega) rfl)
  refine run_seq (N1 := fun _ => True)
    (run_forD (ds := rng 0 4) (fun i G => ∃ s3 s4 s5 s6 s7 s8 s9, G = GQ4 p seats s3 s4 s5 s6 s7 s8 s9 ∧ (s3.ad = none ∧ s4.ad = none ∧ s5.ad = none ∧ s6.ad = none ∧ s7.ad = none ∧ s8.ad = none ∧ s9.ad = none))
      (wk_range1 (n := 4) (ea_1 eg_int) (by decide) (by decide)) ⟨.un, .un, .un, .un, .un, .un, .un, rfl, rfl, rfl, rfl, rfl, rfl, rfl, rfl⟩ (fun i d G1 hd hI => ?_) fun G1 hI => trivial) fun G1 _ => run_ret eg_bl
  obtain ⟨s3, s4, s5, s6, s7, s8, s9, rfl, a3, a4, a5, a6, a7, a8, a9⟩ := hI
  refine ⟨[3], _, gg_name (i := 3) rfl a3 (by simp), ?_⟩
  refine q_setP (i := 4) (s := s4) (p := fun d => ∃ bids : List Int, d = .tup (intsD bids) ∧ BidsOk bids ∧ bids.length = seats.length) (eg_callXS (px := (· = [planD seats [] []])) rfl (ea_1 (eg_var rfl)) fun ds e => ⟨⟨seats, [], []⟩, e, hW, fun d h => h⟩) (fun d' hd => ?_) rfl a4
  obtain ⟨bids, rfl, hbo, hbl⟩ := hd
  have hout : ∀ {dd : Deed}, dd.ok seats (seats ++ nmL []) → OutG.ok ⟨seats, [], [⟨none, dd⟩], bids⟩ := fun {dd} h => ⟨hS, lines0 hS, rows1 h, hbl, fun b hb => (hbo b hb).1⟩
  have hT : ∀ {dd : Deed}, dd.ok seats (seats ++ nmL []) → TextInL.ok ⟨seats, [], [⟨none, dd⟩]⟩ := fun {dd} h => ⟨hS, lines0 hS, rows1 h⟩
  refine q_set (i := 5) (s := s5) (d := .lst ((placesOf bids seats.length).map Dt.int)) (eg_eq (eg_sortLamC (n := seats.length) (d := .tup (intsD bids)) (aheadI bids) rfl (lenS rfl) (by omega) fun j hj => eg_eq (ed_callX (out := fun a : AhIn => Dt.int (aheadN a.bids a.j : Int)) ⟨bids, j⟩ (ea_2 (eg_var rfl) (eg_var rfl)) ⟨by show j < bids.length; omega, by show bids.length ≤ 4; omega⟩) rfl) (by rw [← hbl, sorted_ahead])) ?_ rfl a5
  refine run_seq (N1 := fun G => ∃ s6 s7 s8 s9, G = GQ4 p seats (.da d) (.da (.tup (intsD bids))) (.da (.lst ((placesOf bids seats.length).map Dt.int))) s6 s7 s8 s9 ∧ (s6.ad = none ∧ s7.ad = none ∧ s8.ad = none ∧ s9.ad = none))
    (run_forD (ds := rng 0 seats.length) (fun i G => ∃ s6 s7 s8 s9, G = GQ4 p seats (.da d) (.da (.tup (intsD bids))) (.da (.lst ((placesOf bids seats.length).map Dt.int))) s6 s7 s8 s9 ∧ (s6.ad = none ∧ s7.ad = none ∧ s8.ad = none ∧ s9.ad = none))
      (wk_r1 (lenS rfl) (by omega)) ⟨s6, s7, s8, s9, rfl, a6, a7, a8, a9⟩ (fun i d2 G1 hd2 hI => ?_) fun G1 hI => hI) fun G1 hG => ?_
  · obtain ⟨s6, s7, s8, s9, rfl, a6, a7, a8, a9⟩ := hI
    obtain ⟨hi, rfl⟩ := rng_get hd2
    rw [show (0 + (i : Int)) = (i : Int) by omega]
    refine ⟨[6], _, gg_name (i := 6) rfl a6 (by simp), ?_⟩
    refine q_setP (i := 7) (s := s7) (p := fun d => ∃ q : Pt, d = q.d ∧ q.ok seats) (eg_callXS (px := (· = [.lst (strsD seats)])) rfl (ea_1 (eg_var rfl)) fun ds e => ⟨seats, e, ⟨n1, by omega⟩, fun d h => h⟩) (fun d' hd => ?_) rfl a7
    obtain ⟨q, rfl, hq⟩ := hd
    have hq' : q.ok (seats ++ nmL []) := by rw [show seats ++ nmL [] = seats from List.append_nil _]; exact hq
    refine q_set (i := 8) (s := s8) (d := .int (q.val (seats.zip bids))) ?_ ?_ rfl a8
    · cases q with
      | nm x =>
        obtain ⟨j, j1, j2⟩ := idx_of (show x ∈ seats from hq)
        have hj : j < seats.length := (List.getElem?_eq_some_iff.mp j1).1
        rw [val_idx hS hbl j1]
        exact eg_if (p := (· = false)) (et_B1 (eg_isi (b := false) (d := .str x) (eg_var rfl) rfl (by decide +kernel))) (fun z => (Bool.false_ne_true z.symm).elim) fun _ => ix_ints (i := j) (by omega) (eg_var rfl) (ed_index (eg_var rfl) (eg_var rfl) j1 j2)
      | nu n => exact eg_if (p := (· = true)) (et_B1 (eg_isi (b := true) (d := .int (n : Int)) (eg_var rfl) rfl (by decide +kernel))) (fun _ => eg_var rfl) fun z => (Bool.false_ne_true z).elim
    have ok1 : (Deed.sell (.place (i + 1)) q).ok seats (seats ++ nmL []) := ⟨⟨by omega, by omega⟩, hq'⟩
    have ok2 : (Deed.sell (.seat (seats.getD i sKeep)) q).ok seats (seats ++ nmL []) := ⟨seat_mem hi, hq'⟩
    obtain ⟨o1, o2⟩ := out_okS (plan1 hS ok1) hbo hbl
    obtain ⟨o3, o4⟩ := out_okS (plan1 hS ok2) hbo hbl
    refine q_set (i := 9) (s := s9) (d := .obj C (ruleL seats [] [⟨none, .sell (.place (i + 1)) q⟩])) (eg_make (px := (· = [.tup (strsD seats), .tup [], .tup [.str (Deed.sell (.place (i + 1)) q).txt]])) (ea_3 (ed_cb (ea_1 (eg_var rfl)) (rc_tupL rfl)) (ed_tup ea_nil (by show 0 ≤ 100000; decide)) (ed_tup (ea_1
      (ed_sell hS.ok (by omega) hS.ok ok1.1 hq (ed_strN (n := i + 1) (eg_eq (ed_addI (eg_var rfl) eg_int) (by show Dt.int _ = Dt.int _; rw [Int.natCast_add]; rfl)) (by omega)) (ed_strP (eg_var rfl) hq))))) fun ds e => ⟨⟨seats, [], [⟨none, .sell (.place (i + 1)) q⟩]⟩, e, hT ok1, rfl⟩) ?_ rfl a9
    refine q_no (et_eq (et_tst1 (ed_neS (i := (outG seats [] [⟨none, .sell (.place (i + 1)) q⟩] bids).py.shown) (j := (outG seats [] [⟨none, .sell (.place (i + 1)) q⟩] bids).py.shown)
      (ed_reprS (eg_methX (px := (· = [.tup (intsD bids)])) (pz := (· = outG seats [] [⟨none, .sell (.place (i + 1)) q⟩] bids)) (eg_var rfl) rfl (ea_1 (eg_var rfl)) fun es e => ⟨(⟨seats, [], [⟨none, .sell (.place (i + 1)) q⟩], bids⟩ : OutG), by rw [e], hout ok1, fun _ e => e⟩) o1 o2)
      (ed_reprS (eg_eq (ed_tup (ea_2 (ed_ixL (ds := strsD seats) (d := .str ((stand seats bids).getD i sKeep)) (eg_var rfl) (ed_ixL (ds := (placesOf bids seats.length).map Dt.int) (d := .int ((placesOf bids seats.length).getD i 0)) (eg_var rfl) (eg_var rfl) ?_) ?_) (eg_var rfl))) ?_) o1 o2))) (by rw [decide_eq_true rfl]; rfl)) ?_
    · refine atI_nat ?_
      rw [List.getElem?_map, List.getD_eq_getElem?_getD, List.getElem?_eq_getElem (by rw [placesOf_len]; exact hi)]
      rfl
    · have hp : i < (placesOf bids seats.length).length := by rw [placesOf_len]; exact hi
      have em : (placesOf bids seats.length).getD i 0 = (placesOf bids seats.length)[i] := by
        rw [List.getD_eq_getElem?_getD, List.getElem?_eq_getElem hp]
        rfl
      obtain ⟨j, hj, ej⟩ := placesOf_mem (List.getElem_mem hp)
      have es : (stand seats bids).getD i sKeep = seats.getD j sKeep := by
        unfold stand
        rw [List.getD_eq_getElem?_getD, List.getElem?_map, List.getElem?_eq_getElem hp, ej]
        rfl
      rw [em, ej, es]
      exact atI_nat (seat_get hj)
    · rw [out1]
      rfl
    refine q_set (i := 9) (s := .da (.obj C (ruleL seats [] [⟨none, .sell (.place (i + 1)) q⟩]))) (d := .obj C (ruleL seats [] [⟨none, .sell (.seat (seats.getD i sKeep)) q⟩])) (eg_make (px := (· = [.tup (strsD seats), .tup [], .tup [.str (Deed.sell (.seat (seats.getD i sKeep)) q).txt]])) (ea_3 (ed_cb (ea_1 (eg_var rfl)) (rc_tupL rfl)) (ed_tup ea_nil (by show 0 ≤ 100000; decide)) (ed_tup (ea_1
      (ed_sell hS.ok (by omega) hS.ok ok2.1 hq (ed_ixL (ds := strsD seats) (eg_var rfl) (eg_var rfl) (atI_nat (seat_get hi))) (ed_strP (eg_var rfl) hq))))) fun ds e => ⟨⟨seats, [], [⟨none, .sell (.seat (seats.getD i sKeep)) q⟩]⟩, e, hT ok2, rfl⟩) ?_ rfl rfl
    refine l_no (et_eq (et_tst1 (ed_neS (i := (outG seats [] [⟨none, .sell (.seat (seats.getD i sKeep)) q⟩] bids).py.shown) (j := (outG seats [] [⟨none, .sell (.seat (seats.getD i sKeep)) q⟩] bids).py.shown)
      (ed_reprS (eg_methKX (px := (· = [.tup (intsD bids)])) (pz := (· = outG seats [] [⟨none, .sell (.seat (seats.getD i sKeep)) q⟩] bids)) (eg_var rfl) rfl (ea_1 (eg_var rfl)) fun es e => ⟨by rw [e]; rfl, (⟨seats, [], [⟨none, .sell (.seat (seats.getD i sKeep)) q⟩], bids⟩ : OutG), hout ok2, fun H v ws dv dw => ?_, fun _ e => e⟩) o3 o4)
      (ed_reprS (eg_eq (ed_tup (ea_2 (ed_ixL (ds := strsD seats) (eg_var rfl) (eg_var rfl) (atI_nat (seat_get hi))) (eg_var rfl))) ?_) o3 o4))) (by rw [decide_eq_true rfl]; rfl)) ⟨_, _, _, _, rfl, rfl, rfl, rfl, rfl⟩
    · subst e
      exact ⟨v, ws, rfl, dv, dw⟩
    · rw [out1]
      rfl
  obtain ⟨s6, s7, s8, s9, rfl, a6, a7, a8, a9⟩ := hG
  have ok0 : Deed.keep.ok seats (seats ++ nmL []) := trivial
  refine l_no (et_eq (et_tst1 (ed_notN (x := .non) (eg_methX (px := (· = [.tup (intsD bids)])) (pz := (· = .non)) (eg_make (px := (· = [.tup (strsD seats), .tup [], .tup [.str Deed.keep.txt]])) (pz := (· = .obj C (ruleL seats [] [⟨none, .keep⟩]))) (ea_3 (ed_cb (ea_1 (eg_var rfl)) (rc_tupL rfl)) (ed_tup ea_nil (by show 0 ≤ 100000; decide)) (ed_tup (ea_1 (eg_eq eg_str (congrArg Dt.str (jn_one sKeep).symm)))))
    fun ds e => ⟨⟨seats, [], [⟨none, .keep⟩]⟩, e, hT ok0, rfl⟩) rfl (ea_1 (eg_var rfl)) fun es e => ⟨(⟨seats, [], [⟨none, .keep⟩], bids⟩ : OutG), by rw [e], hout ok0, fun _ e => by rw [e]; exact (out1 seats .keep bids)⟩))) rfl) ⟨_, _, _, _, _, _, _, rfl, rfl, rfl, rfl, a6, a7, a8, a9⟩
end
end Sb

set_option Elab.async false
set_option linter.all false
set_option maxRecDepth 100000
set_option autoImplicit false
namespace Sb
open PySem PySem.Spec PyProof.Rows L2 TL
set_option maxHeartbeats 1000000 in
theorem all_mk {l : PySem.W.OpenLaw} {w : World} {K : KX} {h : Heap} {mg : Str → Option Value} {fa C aS aO : Addr} (X : K.fr.In h) (G : h.Ns mainGlobals mg) (hfa : mg "law" = some (.ref fa))
    {od_is_integer an_is_integer : Option Addr} {sl_is_integer : Array (Option Value)} {oc_is_integer kV_is_integer dc_is_integer pm_is_integer cd_is_integer ct_is_integer : Value} {f_is_integer : Addr}
    {od_is_name an_is_name : Option Addr} {sl_is_name : Array (Option Value)} {oc_is_name kV_is_name dc_is_name pm_is_name cd_is_name ct_is_name : Value} {f_is_name : Addr}
    {od_integer_of an_integer_of : Option Addr} {sl_integer_of : Array (Option Value)} {oc_integer_of kV_integer_of dc_integer_of pm_integer_of cd_integer_of ct_integer_of : Value} {f_integer_of : Addr}
    {od_part_of an_part_of : Option Addr} {sl_part_of : Array (Option Value)} {oc_part_of kV_part_of dc_part_of pm_part_of cd_part_of ct_part_of : Value} {f_part_of : Addr}
    {od_place_of an_place_of : Option Addr} {sl_place_of : Array (Option Value)} {oc_place_of kV_place_of dc_place_of pm_place_of cd_place_of ct_place_of : Value} {f_place_of : Addr}
    {od_condition_of an_condition_of : Option Addr} {sl_condition_of : Array (Option Value)} {oc_condition_of kV_condition_of dc_condition_of pm_condition_of cd_condition_of ct_condition_of : Value} {f_condition_of : Addr}
    {od_done_of an_done_of : Option Addr} {sl_done_of : Array (Option Value)} {oc_done_of kV_done_of dc_done_of pm_done_of cd_done_of ct_done_of : Value} {f_done_of : Addr}
    {od_step_of an_step_of : Option Addr} {sl_step_of : Array (Option Value)} {oc_step_of kV_step_of dc_step_of pm_step_of cd_step_of ct_step_of : Value} {f_step_of : Addr}
    {od_check_seats an_check_seats : Option Addr} {sl_check_seats : Array (Option Value)} {oc_check_seats kV_check_seats dc_check_seats pm_check_seats cd_check_seats ct_check_seats : Value} {f_check_seats : Addr}
    {od_names_of an_names_of : Option Addr} {sl_names_of : Array (Option Value)} {oc_names_of kV_names_of dc_names_of pm_names_of cd_names_of ct_names_of : Value} {f_names_of : Addr}
    {od_is_line an_is_line : Option Addr} {sl_is_line : Array (Option Value)} {oc_is_line kV_is_line dc_is_line pm_is_line cd_is_line ct_is_line : Value} {f_is_line : Addr}
    {od_term_of an_term_of : Option Addr} {sl_term_of : Array (Option Value)} {oc_term_of kV_term_of dc_term_of pm_term_of cd_term_of ct_term_of : Value} {f_term_of : Addr}
    {od_check_lines an_check_lines : Option Addr} {sl_check_lines : Array (Option Value)} {oc_check_lines kV_check_lines dc_check_lines pm_check_lines cd_check_lines ct_check_lines : Value} {f_check_lines : Addr}
    {od_read_terms an_read_terms : Option Addr} {sl_read_terms : Array (Option Value)} {oc_read_terms kV_read_terms dc_read_terms pm_read_terms cd_read_terms ct_read_terms : Value} {f_read_terms : Addr}
    {od_read_steps an_read_steps : Option Addr} {sl_read_steps : Array (Option Value)} {oc_read_steps kV_read_steps dc_read_steps pm_read_steps cd_read_steps ct_read_steps : Value} {f_read_steps : Addr}
    {od_text_of an_text_of : Option Addr} {sl_text_of : Array (Option Value)} {oc_text_of kV_text_of dc_text_of pm_text_of cd_text_of ct_text_of : Value} {f_text_of : Addr}
    {od_check_bids an_check_bids : Option Addr} {sl_check_bids : Array (Option Value)} {oc_check_bids kV_check_bids dc_check_bids pm_check_bids cd_check_bids ct_check_bids : Value} {f_check_bids : Addr}
    {od_part_worth an_part_worth : Option Addr} {sl_part_worth : Array (Option Value)} {oc_part_worth kV_part_worth dc_part_worth pm_part_worth cd_part_worth ct_part_worth : Value} {f_part_worth : Addr}
    {od_term_worth an_term_worth : Option Addr} {sl_term_worth : Array (Option Value)} {oc_term_worth kV_term_worth dc_term_worth pm_term_worth cd_term_worth ct_term_worth : Value} {f_term_worth : Addr}
    {od_standing an_standing : Option Addr} {sl_standing : Array (Option Value)} {oc_standing kV_standing dc_standing pm_standing cd_standing ct_standing : Value} {f_standing : Addr}
    {od_sale an_sale : Option Addr} {sl_sale : Array (Option Value)} {oc_sale kV_sale dc_sale pm_sale cd_sale ct_sale : Value} {f_sale : Addr}
    {od_holds an_holds : Option Addr} {sl_holds : Array (Option Value)} {oc_holds kV_holds dc_holds pm_holds cd_holds ct_holds : Value} {f_holds : Addr}
    {od__law_source an__law_source : Option Addr} {sl__law_source : Array (Option Value)} {oc__law_source kV__law_source dc__law_source pm__law_source cd__law_source ct__law_source : Value} {f__law_source : Addr}
    {od__law_take an__law_take : Option Addr} {sl__law_take : Array (Option Value)} {oc__law_take kV__law_take dc__law_take pm__law_take cd__law_take ct__law_take : Value} {f__law_take : Addr}
    {od__law_names an__law_names : Option Addr} {sl__law_names : Array (Option Value)} {oc__law_names kV__law_names dc__law_names pm__law_names cd__law_names ct__law_names : Value} {f__law_names : Addr}
    {od__law_piece an__law_piece : Option Addr} {sl__law_piece : Array (Option Value)} {oc__law_piece kV__law_piece dc__law_piece pm__law_piece cd__law_piece ct__law_piece : Value} {f__law_piece : Addr}
    {od__law_integers an__law_integers : Option Addr} {sl__law_integers : Array (Option Value)} {oc__law_integers kV__law_integers dc__law_integers pm__law_integers cd__law_integers ct__law_integers : Value} {f__law_integers : Addr}
    {od__law_offers an__law_offers : Option Addr} {sl__law_offers : Array (Option Value)} {oc__law_offers kV__law_offers dc__law_offers pm__law_offers cd__law_offers ct__law_offers : Value} {f__law_offers : Addr}
    {od__law_ahead an__law_ahead : Option Addr} {sl__law_ahead : Array (Option Value)} {oc__law_ahead kV__law_ahead dc__law_ahead pm__law_ahead cd__law_ahead ct__law_ahead : Value} {f__law_ahead : Addr}
    {od__law_right an__law_right : Option Addr} {sl__law_right : Array (Option Value)} {oc__law_right kV__law_right dc__law_right pm__law_right cd__law_right ct__law_right : Value} {f__law_right : Addr}
    {od_law an_law : Option Addr} {sl_law : Array (Option Value)} {oc_law kV_law dc_law pm_law cd_law ct_law : Value} {f_law : Addr}
    {od_Rule___init__ an_Rule___init__ : Option Addr} {sl_Rule___init__ : Array (Option Value)} {oc_Rule___init__ kV_Rule___init__ dc_Rule___init__ pm_Rule___init__ cd_Rule___init__ ct_Rule___init__ : Value} {f_Rule___init__ : Addr}
    {od_Rule_worths an_Rule_worths : Option Addr} {sl_Rule_worths : Array (Option Value)} {oc_Rule_worths kV_Rule_worths dc_Rule_worths pm_Rule_worths cd_Rule_worths ct_Rule_worths : Value} {f_Rule_worths : Addr}
    {od_Rule_outcome an_Rule_outcome : Option Addr} {sl_Rule_outcome : Array (Option Value)} {oc_Rule_outcome kV_Rule_outcome dc_Rule_outcome pm_Rule_outcome cd_Rule_outcome ct_Rule_outcome : Value} {f_Rule_outcome : Addr}
    {od_Rule_seats an_Rule_seats : Option Addr} {sl_Rule_seats : Array (Option Value)} {oc_Rule_seats kV_Rule_seats dc_Rule_seats pm_Rule_seats cd_Rule_seats ct_Rule_seats : Value} {f_Rule_seats : Addr}
    {p_Rule_seats : Addr} {re_Rule_seats : List Value}
    {od_Rule_lines an_Rule_lines : Option Addr} {sl_Rule_lines : Array (Option Value)} {oc_Rule_lines kV_Rule_lines dc_Rule_lines pm_Rule_lines cd_Rule_lines ct_Rule_lines : Value} {f_Rule_lines : Addr}
    {p_Rule_lines : Addr} {re_Rule_lines : List Value}
    {tk_LETTERS : Tok}
    {tk_DIGITS : Tok}
    {tk_LONGEST_NAME : Tok}
    {tk_MOST_SEATS : Tok}
    {tk_MOST_LINES : Tok}
    {tk_MOST_ROWS : Tok}
    {tk_MOST_PARTS : Tok}
    {tk_MOST_INTEGER : Tok}
    {t1 t2 : Tok} {sn_SIGNS : Nat} {so_SIGNS : Option Addr} {ss_SIGNS : Array (Option Value)}
    {t3 t4 : Tok} {sn_ORDERS : Nat} {so_ORDERS : Option Addr} {ss_ORDERS : Array (Option Value)}
    {cT_standing tT_standing cT__law_right tT__law_right : Addr} (htb : K.tb = [(tT_standing, ("standing" ++ ".<locals>." ++ "<lambda>" : Str)), (tT__law_right, ("_law_right" ++ ".<locals>." ++ "<lambda>" : Str))])
    (a_is_integer : PySem.W.nsIn K mainGlobals "is_integer" = some (some (.ref f_is_integer)))
    (l_is_integer : K.fr.lookup f_is_integer = some ⟨oc_is_integer, od_is_integer, .func (PySem.W.fnOf "is_integer" "is_integer" (defArgs s_is_integer) (defBody s_is_integer) (defScope s_is_integer) .none kV_is_integer dc_is_integer pm_is_integer an_is_integer cd_is_integer ct_is_integer), sl_is_integer⟩)
    (c_is_integer : PySem.W.codeIn K cd_is_integer "is_integer" = true)
    (k_is_integer : PySem.W.keepIn K (.ref f_is_integer) = true)
    (a_is_name : PySem.W.nsIn K mainGlobals "is_name" = some (some (.ref f_is_name)))
    (l_is_name : K.fr.lookup f_is_name = some ⟨oc_is_name, od_is_name, .func (PySem.W.fnOf "is_name" "is_name" (defArgs s_is_name) (defBody s_is_name) (defScope s_is_name) .none kV_is_name dc_is_name pm_is_name an_is_name cd_is_name ct_is_name), sl_is_name⟩)
    (c_is_name : PySem.W.codeIn K cd_is_name "is_name" = true)
    (k_is_name : PySem.W.keepIn K (.ref f_is_name) = true)
    (a_integer_of : PySem.W.nsIn K mainGlobals "integer_of" = some (some (.ref f_integer_of)))
    (l_integer_of : K.fr.lookup f_integer_of = some ⟨oc_integer_of, od_integer_of, .func (PySem.W.fnOf "integer_of" "integer_of" (defArgs s_integer_of) (defBody s_integer_of) (defScope s_integer_of) .none kV_integer_of dc_integer_of pm_integer_of an_integer_of cd_integer_of ct_integer_of), sl_integer_of⟩)
    (c_integer_of : PySem.W.codeIn K cd_integer_of "integer_of" = true)
    (k_integer_of : PySem.W.keepIn K (.ref f_integer_of) = true)
    (a_part_of : PySem.W.nsIn K mainGlobals "part_of" = some (some (.ref f_part_of)))
    (l_part_of : K.fr.lookup f_part_of = some ⟨oc_part_of, od_part_of, .func (PySem.W.fnOf "part_of" "part_of" (defArgs s_part_of) (defBody s_part_of) (defScope s_part_of) .none kV_part_of dc_part_of pm_part_of an_part_of cd_part_of ct_part_of), sl_part_of⟩)
    (c_part_of : PySem.W.codeIn K cd_part_of "part_of" = true)
    (k_part_of : PySem.W.keepIn K (.ref f_part_of) = true)
    (a_place_of : PySem.W.nsIn K mainGlobals "place_of" = some (some (.ref f_place_of)))
    (l_place_of : K.fr.lookup f_place_of = some ⟨oc_place_of, od_place_of, .func (PySem.W.fnOf "place_of" "place_of" (defArgs s_place_of) (defBody s_place_of) (defScope s_place_of) .none kV_place_of dc_place_of pm_place_of an_place_of cd_place_of ct_place_of), sl_place_of⟩)
    (c_place_of : PySem.W.codeIn K cd_place_of "place_of" = true)
    (k_place_of : PySem.W.keepIn K (.ref f_place_of) = true)
    (a_condition_of : PySem.W.nsIn K mainGlobals "condition_of" = some (some (.ref f_condition_of)))
    (l_condition_of : K.fr.lookup f_condition_of = some ⟨oc_condition_of, od_condition_of, .func (PySem.W.fnOf "condition_of" "condition_of" (defArgs s_condition_of) (defBody s_condition_of) (defScope s_condition_of) .none kV_condition_of dc_condition_of pm_condition_of an_condition_of cd_condition_of ct_condition_of), sl_condition_of⟩)
    (c_condition_of : PySem.W.codeIn K cd_condition_of "condition_of" = true)
    (k_condition_of : PySem.W.keepIn K (.ref f_condition_of) = true)
    (a_done_of : PySem.W.nsIn K mainGlobals "done_of" = some (some (.ref f_done_of)))
    (l_done_of : K.fr.lookup f_done_of = some ⟨oc_done_of, od_done_of, .func (PySem.W.fnOf "done_of" "done_of" (defArgs s_done_of) (defBody s_done_of) (defScope s_done_of) .none kV_done_of dc_done_of pm_done_of an_done_of cd_done_of ct_done_of), sl_done_of⟩)
    (c_done_of : PySem.W.codeIn K cd_done_of "done_of" = true)
    (k_done_of : PySem.W.keepIn K (.ref f_done_of) = true)
    (a_step_of : PySem.W.nsIn K mainGlobals "step_of" = some (some (.ref f_step_of)))
    (l_step_of : K.fr.lookup f_step_of = some ⟨oc_step_of, od_step_of, .func (PySem.W.fnOf "step_of" "step_of" (defArgs s_step_of) (defBody s_step_of) (defScope s_step_of) .none kV_step_of dc_step_of pm_step_of an_step_of cd_step_of ct_step_of), sl_step_of⟩)
    (c_step_of : PySem.W.codeIn K cd_step_of "step_of" = true)
    (k_step_of : PySem.W.keepIn K (.ref f_step_of) = true)
    (a_check_seats : PySem.W.nsIn K mainGlobals "check_seats" = some (some (.ref f_check_seats)))
    (l_check_seats : K.fr.lookup f_check_seats = some ⟨oc_check_seats, od_check_seats, .func (PySem.W.fnOf "check_seats" "check_seats" (defArgs s_check_seats) (defBody s_check_seats) (defScope s_check_seats) .none kV_check_seats dc_check_seats pm_check_seats an_check_seats cd_check_seats ct_check_seats), sl_check_seats⟩)
    (c_check_seats : PySem.W.codeIn K cd_check_seats "check_seats" = true)
    (k_check_seats : PySem.W.keepIn K (.ref f_check_seats) = true)
    (a_names_of : PySem.W.nsIn K mainGlobals "names_of" = some (some (.ref f_names_of)))
    (l_names_of : K.fr.lookup f_names_of = some ⟨oc_names_of, od_names_of, .func (PySem.W.fnOf "names_of" "names_of" (defArgs s_names_of) (defBody s_names_of) (defScope s_names_of) .none kV_names_of dc_names_of pm_names_of an_names_of cd_names_of ct_names_of), sl_names_of⟩)
    (c_names_of : PySem.W.codeIn K cd_names_of "names_of" = true)
    (k_names_of : PySem.W.keepIn K (.ref f_names_of) = true)
    (a_is_line : PySem.W.nsIn K mainGlobals "is_line" = some (some (.ref f_is_line)))
    (l_is_line : K.fr.lookup f_is_line = some ⟨oc_is_line, od_is_line, .func (PySem.W.fnOf "is_line" "is_line" (defArgs s_is_line) (defBody s_is_line) (defScope s_is_line) .none kV_is_line dc_is_line pm_is_line an_is_line cd_is_line ct_is_line), sl_is_line⟩)
    (c_is_line : PySem.W.codeIn K cd_is_line "is_line" = true)
    (k_is_line : PySem.W.keepIn K (.ref f_is_line) = true)
    (a_term_of : PySem.W.nsIn K mainGlobals "term_of" = some (some (.ref f_term_of)))
    (l_term_of : K.fr.lookup f_term_of = some ⟨oc_term_of, od_term_of, .func (PySem.W.fnOf "term_of" "term_of" (defArgs s_term_of) (defBody s_term_of) (defScope s_term_of) .none kV_term_of dc_term_of pm_term_of an_term_of cd_term_of ct_term_of), sl_term_of⟩)
    (c_term_of : PySem.W.codeIn K cd_term_of "term_of" = true)
    (k_term_of : PySem.W.keepIn K (.ref f_term_of) = true)
    (a_check_lines : PySem.W.nsIn K mainGlobals "check_lines" = some (some (.ref f_check_lines)))
    (l_check_lines : K.fr.lookup f_check_lines = some ⟨oc_check_lines, od_check_lines, .func (PySem.W.fnOf "check_lines" "check_lines" (defArgs s_check_lines) (defBody s_check_lines) (defScope s_check_lines) .none kV_check_lines dc_check_lines pm_check_lines an_check_lines cd_check_lines ct_check_lines), sl_check_lines⟩)
    (c_check_lines : PySem.W.codeIn K cd_check_lines "check_lines" = true)
    (k_check_lines : PySem.W.keepIn K (.ref f_check_lines) = true)
    (a_read_terms : PySem.W.nsIn K mainGlobals "read_terms" = some (some (.ref f_read_terms)))
    (l_read_terms : K.fr.lookup f_read_terms = some ⟨oc_read_terms, od_read_terms, .func (PySem.W.fnOf "read_terms" "read_terms" (defArgs s_read_terms) (defBody s_read_terms) (defScope s_read_terms) .none kV_read_terms dc_read_terms pm_read_terms an_read_terms cd_read_terms ct_read_terms), sl_read_terms⟩)
    (c_read_terms : PySem.W.codeIn K cd_read_terms "read_terms" = true)
    (k_read_terms : PySem.W.keepIn K (.ref f_read_terms) = true)
    (a_read_steps : PySem.W.nsIn K mainGlobals "read_steps" = some (some (.ref f_read_steps)))
    (l_read_steps : K.fr.lookup f_read_steps = some ⟨oc_read_steps, od_read_steps, .func (PySem.W.fnOf "read_steps" "read_steps" (defArgs s_read_steps) (defBody s_read_steps) (defScope s_read_steps) .none kV_read_steps dc_read_steps pm_read_steps an_read_steps cd_read_steps ct_read_steps), sl_read_steps⟩)
    (c_read_steps : PySem.W.codeIn K cd_read_steps "read_steps" = true)
    (k_read_steps : PySem.W.keepIn K (.ref f_read_steps) = true)
    (a_text_of : PySem.W.nsIn K mainGlobals "text_of" = some (some (.ref f_text_of)))
    (l_text_of : K.fr.lookup f_text_of = some ⟨oc_text_of, od_text_of, .func (PySem.W.fnOf "text_of" "text_of" (defArgs s_text_of) (defBody s_text_of) (defScope s_text_of) .none kV_text_of dc_text_of pm_text_of an_text_of cd_text_of ct_text_of), sl_text_of⟩)
    (c_text_of : PySem.W.codeIn K cd_text_of "text_of" = true)
    (k_text_of : PySem.W.keepIn K (.ref f_text_of) = true)
    (a_check_bids : PySem.W.nsIn K mainGlobals "check_bids" = some (some (.ref f_check_bids)))
    (l_check_bids : K.fr.lookup f_check_bids = some ⟨oc_check_bids, od_check_bids, .func (PySem.W.fnOf "check_bids" "check_bids" (defArgs s_check_bids) (defBody s_check_bids) (defScope s_check_bids) .none kV_check_bids dc_check_bids pm_check_bids an_check_bids cd_check_bids ct_check_bids), sl_check_bids⟩)
    (c_check_bids : PySem.W.codeIn K cd_check_bids "check_bids" = true)
    (k_check_bids : PySem.W.keepIn K (.ref f_check_bids) = true)
    (a_part_worth : PySem.W.nsIn K mainGlobals "part_worth" = some (some (.ref f_part_worth)))
    (l_part_worth : K.fr.lookup f_part_worth = some ⟨oc_part_worth, od_part_worth, .func (PySem.W.fnOf "part_worth" "part_worth" (defArgs s_part_worth) (defBody s_part_worth) (defScope s_part_worth) .none kV_part_worth dc_part_worth pm_part_worth an_part_worth cd_part_worth ct_part_worth), sl_part_worth⟩)
    (c_part_worth : PySem.W.codeIn K cd_part_worth "part_worth" = true)
    (k_part_worth : PySem.W.keepIn K (.ref f_part_worth) = true)
    (a_term_worth : PySem.W.nsIn K mainGlobals "term_worth" = some (some (.ref f_term_worth)))
    (l_term_worth : K.fr.lookup f_term_worth = some ⟨oc_term_worth, od_term_worth, .func (PySem.W.fnOf "term_worth" "term_worth" (defArgs s_term_worth) (defBody s_term_worth) (defScope s_term_worth) .none kV_term_worth dc_term_worth pm_term_worth an_term_worth cd_term_worth ct_term_worth), sl_term_worth⟩)
    (c_term_worth : PySem.W.codeIn K cd_term_worth "term_worth" = true)
    (k_term_worth : PySem.W.keepIn K (.ref f_term_worth) = true)
    (a_standing : PySem.W.nsIn K mainGlobals "standing" = some (some (.ref f_standing)))
    (l_standing : K.fr.lookup f_standing = some ⟨oc_standing, od_standing, .func (PySem.W.fnOf "standing" "standing" (defArgs s_standing) (defBody s_standing) (defScope s_standing) .none kV_standing dc_standing pm_standing an_standing cd_standing ct_standing), sl_standing⟩)
    (c_standing : PySem.W.codeIn K cd_standing "standing" = true)
    (k_standing : PySem.W.keepIn K (.ref f_standing) = true)
    (a_sale : PySem.W.nsIn K mainGlobals "sale" = some (some (.ref f_sale)))
    (l_sale : K.fr.lookup f_sale = some ⟨oc_sale, od_sale, .func (PySem.W.fnOf "sale" "sale" (defArgs s_sale) (defBody s_sale) (defScope s_sale) .none kV_sale dc_sale pm_sale an_sale cd_sale ct_sale), sl_sale⟩)
    (c_sale : PySem.W.codeIn K cd_sale "sale" = true)
    (k_sale : PySem.W.keepIn K (.ref f_sale) = true)
    (a_holds : PySem.W.nsIn K mainGlobals "holds" = some (some (.ref f_holds)))
    (l_holds : K.fr.lookup f_holds = some ⟨oc_holds, od_holds, .func (PySem.W.fnOf "holds" "holds" (defArgs s_holds) (defBody s_holds) (defScope s_holds) .none kV_holds dc_holds pm_holds an_holds cd_holds ct_holds), sl_holds⟩)
    (c_holds : PySem.W.codeIn K cd_holds "holds" = true)
    (k_holds : PySem.W.keepIn K (.ref f_holds) = true)
    (a__law_source : PySem.W.nsIn K mainGlobals "_law_source" = some (some (.ref f__law_source)))
    (l__law_source : K.fr.lookup f__law_source = some ⟨oc__law_source, od__law_source, .func (PySem.W.fnOf "_law_source" "_law_source" (defArgs s__law_source) (defBody s__law_source) (defScope s__law_source) .none kV__law_source dc__law_source pm__law_source an__law_source cd__law_source ct__law_source), sl__law_source⟩)
    (c__law_source : PySem.W.codeIn K cd__law_source "_law_source" = true)
    (k__law_source : PySem.W.keepIn K (.ref f__law_source) = true)
    (a__law_take : PySem.W.nsIn K mainGlobals "_law_take" = some (some (.ref f__law_take)))
    (l__law_take : K.fr.lookup f__law_take = some ⟨oc__law_take, od__law_take, .func (PySem.W.fnOf "_law_take" "_law_take" (defArgs s__law_take) (defBody s__law_take) (defScope s__law_take) .none kV__law_take dc__law_take pm__law_take an__law_take cd__law_take ct__law_take), sl__law_take⟩)
    (c__law_take : PySem.W.codeIn K cd__law_take "_law_take" = true)
    (k__law_take : PySem.W.keepIn K (.ref f__law_take) = true)
    (a__law_names : PySem.W.nsIn K mainGlobals "_law_names" = some (some (.ref f__law_names)))
    (l__law_names : K.fr.lookup f__law_names = some ⟨oc__law_names, od__law_names, .func (PySem.W.fnOf "_law_names" "_law_names" (defArgs s__law_names) (defBody s__law_names) (defScope s__law_names) .none kV__law_names dc__law_names pm__law_names an__law_names cd__law_names ct__law_names), sl__law_names⟩)
    (c__law_names : PySem.W.codeIn K cd__law_names "_law_names" = true)
    (k__law_names : PySem.W.keepIn K (.ref f__law_names) = true)
    (a__law_piece : PySem.W.nsIn K mainGlobals "_law_piece" = some (some (.ref f__law_piece)))
    (l__law_piece : K.fr.lookup f__law_piece = some ⟨oc__law_piece, od__law_piece, .func (PySem.W.fnOf "_law_piece" "_law_piece" (defArgs s__law_piece) (defBody s__law_piece) (defScope s__law_piece) .none kV__law_piece dc__law_piece pm__law_piece an__law_piece cd__law_piece ct__law_piece), sl__law_piece⟩)
    (c__law_piece : PySem.W.codeIn K cd__law_piece "_law_piece" = true)
    (k__law_piece : PySem.W.keepIn K (.ref f__law_piece) = true)
    (a__law_integers : PySem.W.nsIn K mainGlobals "_law_integers" = some (some (.ref f__law_integers)))
    (l__law_integers : K.fr.lookup f__law_integers = some ⟨oc__law_integers, od__law_integers, .func (PySem.W.fnOf "_law_integers" "_law_integers" (defArgs s__law_integers) (defBody s__law_integers) (defScope s__law_integers) .none kV__law_integers dc__law_integers pm__law_integers an__law_integers cd__law_integers ct__law_integers), sl__law_integers⟩)
    (c__law_integers : PySem.W.codeIn K cd__law_integers "_law_integers" = true)
    (k__law_integers : PySem.W.keepIn K (.ref f__law_integers) = true)
    (a__law_offers : PySem.W.nsIn K mainGlobals "_law_offers" = some (some (.ref f__law_offers)))
    (l__law_offers : K.fr.lookup f__law_offers = some ⟨oc__law_offers, od__law_offers, .func (PySem.W.fnOf "_law_offers" "_law_offers" (defArgs s__law_offers) (defBody s__law_offers) (defScope s__law_offers) .none kV__law_offers dc__law_offers pm__law_offers an__law_offers cd__law_offers ct__law_offers), sl__law_offers⟩)
    (c__law_offers : PySem.W.codeIn K cd__law_offers "_law_offers" = true)
    (k__law_offers : PySem.W.keepIn K (.ref f__law_offers) = true)
    (a__law_ahead : PySem.W.nsIn K mainGlobals "_law_ahead" = some (some (.ref f__law_ahead)))
    (l__law_ahead : K.fr.lookup f__law_ahead = some ⟨oc__law_ahead, od__law_ahead, .func (PySem.W.fnOf "_law_ahead" "_law_ahead" (defArgs s__law_ahead) (defBody s__law_ahead) (defScope s__law_ahead) .none kV__law_ahead dc__law_ahead pm__law_ahead an__law_ahead cd__law_ahead ct__law_ahead), sl__law_ahead⟩)
    (c__law_ahead : PySem.W.codeIn K cd__law_ahead "_law_ahead" = true)
    (k__law_ahead : PySem.W.keepIn K (.ref f__law_ahead) = true)
    (a__law_right : PySem.W.nsIn K mainGlobals "_law_right" = some (some (.ref f__law_right)))
    (l__law_right : K.fr.lookup f__law_right = some ⟨oc__law_right, od__law_right, .func (PySem.W.fnOf "_law_right" "_law_right" (defArgs s__law_right) (defBody s__law_right) (defScope s__law_right) .none kV__law_right dc__law_right pm__law_right an__law_right cd__law_right ct__law_right), sl__law_right⟩)
    (c__law_right : PySem.W.codeIn K cd__law_right "_law_right" = true)
    (k__law_right : PySem.W.keepIn K (.ref f__law_right) = true)
    (a_law : PySem.W.nsIn K mainGlobals "law" = some (some (.ref f_law)))
    (l_law : K.fr.lookup f_law = some ⟨oc_law, od_law, .func (PySem.W.fnOf "law" "law" (defArgs s_law) (defBody s_law) (defScope s_law) .none kV_law dc_law pm_law an_law cd_law ct_law), sl_law⟩)
    (c_law : PySem.W.codeIn K cd_law "law" = true)
    (k_law : PySem.W.keepIn K (.ref f_law) = true)
    (aC : PySem.W.nsIn K mainGlobals "Rule" = some (some (.ref C)))
    (a_Rule___init__ : PySem.W.findIn K (.ref C) "__init__" = some (some (.ref f_Rule___init__)))
    (i_Rule___init__ : PySem.W.isFn K (.ref f_Rule___init__) = true)
    (l_Rule___init__ : K.fr.lookup f_Rule___init__ = some ⟨oc_Rule___init__, od_Rule___init__, .func (PySem.W.fnOf "__init__" "Rule.__init__" (defArgs s_Rule___init__) (defBody s_Rule___init__) (defScope s_Rule___init__) .none kV_Rule___init__ dc_Rule___init__ pm_Rule___init__ an_Rule___init__ cd_Rule___init__ ct_Rule___init__), sl_Rule___init__⟩)
    (c_Rule___init__ : PySem.W.codeIn K cd_Rule___init__ "Rule.__init__" = true)
    (k_Rule___init__ : PySem.W.keepIn K (.ref f_Rule___init__) = true)
    (a_Rule_worths : PySem.W.findIn K (.ref C) "worths" = some (some (.ref f_Rule_worths)))
    (i_Rule_worths : PySem.W.isFn K (.ref f_Rule_worths) = true)
    (l_Rule_worths : K.fr.lookup f_Rule_worths = some ⟨oc_Rule_worths, od_Rule_worths, .func (PySem.W.fnOf "worths" "Rule.worths" (defArgs s_Rule_worths) (defBody s_Rule_worths) (defScope s_Rule_worths) .none kV_Rule_worths dc_Rule_worths pm_Rule_worths an_Rule_worths cd_Rule_worths ct_Rule_worths), sl_Rule_worths⟩)
    (c_Rule_worths : PySem.W.codeIn K cd_Rule_worths "Rule.worths" = true)
    (k_Rule_worths : PySem.W.keepIn K (.ref f_Rule_worths) = true)
    (a_Rule_outcome : PySem.W.findIn K (.ref C) "outcome" = some (some (.ref f_Rule_outcome)))
    (i_Rule_outcome : PySem.W.isFn K (.ref f_Rule_outcome) = true)
    (l_Rule_outcome : K.fr.lookup f_Rule_outcome = some ⟨oc_Rule_outcome, od_Rule_outcome, .func (PySem.W.fnOf "outcome" "Rule.outcome" (defArgs s_Rule_outcome) (defBody s_Rule_outcome) (defScope s_Rule_outcome) .none kV_Rule_outcome dc_Rule_outcome pm_Rule_outcome an_Rule_outcome cd_Rule_outcome ct_Rule_outcome), sl_Rule_outcome⟩)
    (c_Rule_outcome : PySem.W.codeIn K cd_Rule_outcome "Rule.outcome" = true)
    (k_Rule_outcome : PySem.W.keepIn K (.ref f_Rule_outcome) = true)
    (a_Rule_seats : PySem.W.findIn K (.ref C) "seats" = some (some (.ref p_Rule_seats)))
    (g_Rule_seats : PySem.W.specialIn K (.ref p_Rule_seats) "__get__" = some (some (.builtin "property.__get__")))
    (t_Rule_seats : PySem.W.takesIn K (.ref p_Rule_seats) = some true)
    (r_Rule_seats : PySem.W.recIn K p_Rule_seats "property" = some (.ref f_Rule_seats :: re_Rule_seats))
    (l_Rule_seats : K.fr.lookup f_Rule_seats = some ⟨oc_Rule_seats, od_Rule_seats, .func (PySem.W.fnOf "seats" "Rule.seats" (defArgs s_Rule_seats) (defBody s_Rule_seats) (defScope s_Rule_seats) .none kV_Rule_seats dc_Rule_seats pm_Rule_seats an_Rule_seats cd_Rule_seats ct_Rule_seats), sl_Rule_seats⟩)
    (c_Rule_seats : PySem.W.codeIn K cd_Rule_seats "Rule.seats" = true)
    (k_Rule_seats : PySem.W.keepIn K (.ref f_Rule_seats) = true)
    (a_Rule_lines : PySem.W.findIn K (.ref C) "lines" = some (some (.ref p_Rule_lines)))
    (g_Rule_lines : PySem.W.specialIn K (.ref p_Rule_lines) "__get__" = some (some (.builtin "property.__get__")))
    (t_Rule_lines : PySem.W.takesIn K (.ref p_Rule_lines) = some true)
    (r_Rule_lines : PySem.W.recIn K p_Rule_lines "property" = some (.ref f_Rule_lines :: re_Rule_lines))
    (l_Rule_lines : K.fr.lookup f_Rule_lines = some ⟨oc_Rule_lines, od_Rule_lines, .func (PySem.W.fnOf "lines" "Rule.lines" (defArgs s_Rule_lines) (defBody s_Rule_lines) (defScope s_Rule_lines) .none kV_Rule_lines dc_Rule_lines pm_Rule_lines an_Rule_lines cd_Rule_lines ct_Rule_lines), sl_Rule_lines⟩)
    (c_Rule_lines : PySem.W.codeIn K cd_Rule_lines "Rule.lines" = true)
    (k_Rule_lines : PySem.W.keepIn K (.ref f_Rule_lines) = true)
    (pg : PySem.W.plainGet K C Str.empty = true)
    (hd : PySem.W.hasDictIn K C = true)
    (po : PySem.W.plainOver K C = true)
    (sa : PySem.W.findIn K (.ref C) "__setattr__" = some (some (.builtin "object.__setattr__")))
    (mk : PySem.W.makesIn K C = true)
    (kc : PySem.W.keepIn K (.ref C) = true)
    (n_passed : PySem.W.findIn K (.ref C) "passed" = some none)
    (n_terms : PySem.W.findIn K (.ref C) "terms" = some none)
    (n_steps : PySem.W.findIn K (.ref C) "steps" = some none)
    (n_text : PySem.W.findIn K (.ref C) "text" = some none)
    (z_isinstance : PySem.W.nsIn K mainGlobals "isinstance" = some none)
    (z_int : PySem.W.nsIn K mainGlobals "int" = some none)
    (z_bool : PySem.W.nsIn K mainGlobals "bool" = some none)
    (z_str : PySem.W.nsIn K mainGlobals "str" = some none)
    (z_tuple : PySem.W.nsIn K mainGlobals "tuple" = some none)
    (z_list : PySem.W.nsIn K mainGlobals "list" = some none)
    (z_len : PySem.W.nsIn K mainGlobals "len" = some none)
    (z_all : PySem.W.nsIn K mainGlobals "all" = some none)
    (z_range : PySem.W.nsIn K mainGlobals "range" = some none)
    (z_enumerate : PySem.W.nsIn K mainGlobals "enumerate" = some none)
    (z_zip : PySem.W.nsIn K mainGlobals "zip" = some none)
    (z_dict : PySem.W.nsIn K mainGlobals "dict" = some none)
    (z_abs : PySem.W.nsIn K mainGlobals "abs" = some none)
    (z_max : PySem.W.nsIn K mainGlobals "max" = some none)
    (z_min : PySem.W.nsIn K mainGlobals "min" = some none)
    (z_divmod : PySem.W.nsIn K mainGlobals "divmod" = some none)
    (z_repr : PySem.W.nsIn K mainGlobals "repr" = some none)
    (z_sorted : PySem.W.nsIn K mainGlobals "sorted" = some none)
    (v_LETTERS : PySem.W.nsIn K mainGlobals "LETTERS" = some (some (.str "abcdefghijklmnopqrstuvwxyz" tk_LETTERS)))
    (v_DIGITS : PySem.W.nsIn K mainGlobals "DIGITS" = some (some (.str "0123456789" tk_DIGITS)))
    (v_LONGEST_NAME : PySem.W.nsIn K mainGlobals "LONGEST_NAME" = some (some (.int 8 tk_LONGEST_NAME)))
    (v_MOST_SEATS : PySem.W.nsIn K mainGlobals "MOST_SEATS" = some (some (.int 4 tk_MOST_SEATS)))
    (v_MOST_LINES : PySem.W.nsIn K mainGlobals "MOST_LINES" = some (some (.int 8 tk_MOST_LINES)))
    (v_MOST_ROWS : PySem.W.nsIn K mainGlobals "MOST_ROWS" = some (some (.int 6 tk_MOST_ROWS)))
    (v_MOST_PARTS : PySem.W.nsIn K mainGlobals "MOST_PARTS" = some (some (.int 6 tk_MOST_PARTS)))
    (v_MOST_INTEGER : PySem.W.nsIn K mainGlobals "MOST_INTEGER" = some (some (.int 1000000000000 tk_MOST_INTEGER)))
    (v_SIGNS : PySem.W.nsIn K mainGlobals "SIGNS" = some (some (.ref aS)))
    (w_SIGNS : K.fr.lookup aS = some ⟨.type "tuple", so_SIGNS, .seq #[.str "<" t1, .str "<=" t2] sn_SIGNS, ss_SIGNS⟩)
    (v_ORDERS : PySem.W.nsIn K mainGlobals "ORDERS" = some (some (.ref aO)))
    (w_ORDERS : K.fr.lookup aO = some ⟨.type "tuple", so_ORDERS, .seq #[.str "high" t3, .str "low" t4] sn_ORDERS, ss_ORDERS⟩)
    (tc_standing : cd_standing = .ref cT_standing)
    (tc__law_right : cd__law_right = .ref cT__law_right)
    (ne__law_right_standing : tT__law_right ≠ tT_standing)
    : ∃ fd : FuncData, (∀ (s : Shared) (v : Value), BindsTo s fd ⟨[v], []⟩ [("_law_script", v)]) ∧ ∀ base : Heap, K.fr.In base → base.Ns mainGlobals mg → (∀ p ∈ [(cT_standing, tT_standing), (cT__law_right, tT__law_right)], LamX.TabB base mg p.1 p.2) → FnG l.prog w K mg base 10 fa fd ["_law_script"] (sp_law K) := by
  have e := hfa.symm.trans (PySem.W.mg_of X G a_law)
  cases e
  have F_is_integer := fun_mk (st := s_is_integer) l_is_integer c_is_integer k_is_integer
  have b_is_integer := F_is_integer.binds (ps := A_is_integer) fun _ _ _ _ _ _ us hl => match us, hl with | [_], _ => rfl
  have F_is_name := fun_mk (st := s_is_name) l_is_name c_is_name k_is_name
  have b_is_name := F_is_name.binds (ps := A_is_name) fun _ _ _ _ _ _ us hl => match us, hl with | [_], _ => rfl
  have F_integer_of := fun_mk (st := s_integer_of) l_integer_of c_integer_of k_integer_of
  have b_integer_of := F_integer_of.binds (ps := A_integer_of) fun _ _ _ _ _ _ us hl => match us, hl with | [_], _ => rfl
  have F_part_of := fun_mk (st := s_part_of) l_part_of c_part_of k_part_of
  have b_part_of := F_part_of.binds (ps := A_part_of) fun _ _ _ _ _ _ us hl => match us, hl with | [_, _], _ => rfl
  have F_place_of := fun_mk (st := s_place_of) l_place_of c_place_of k_place_of
  have b_place_of := F_place_of.binds (ps := A_place_of) fun _ _ _ _ _ _ us hl => match us, hl with | [_, _], _ => rfl
  have F_condition_of := fun_mk (st := s_condition_of) l_condition_of c_condition_of k_condition_of
  have b_condition_of := F_condition_of.binds (ps := A_condition_of) fun _ _ _ _ _ _ us hl => match us, hl with | [_, _], _ => rfl
  have F_done_of := fun_mk (st := s_done_of) l_done_of c_done_of k_done_of
  have b_done_of := F_done_of.binds (ps := A_done_of) fun _ _ _ _ _ _ us hl => match us, hl with | [_, _, _], _ => rfl
  have F_step_of := fun_mk (st := s_step_of) l_step_of c_step_of k_step_of
  have b_step_of := F_step_of.binds (ps := A_step_of) fun _ _ _ _ _ _ us hl => match us, hl with | [_, _, _, _], _ => rfl
  have F_check_seats := fun_mk (st := s_check_seats) l_check_seats c_check_seats k_check_seats
  have b_check_seats := F_check_seats.binds (ps := A_check_seats) fun _ _ _ _ _ _ us hl => match us, hl with | [_], _ => rfl
  have F_names_of := fun_mk (st := s_names_of) l_names_of c_names_of k_names_of
  have b_names_of := F_names_of.binds (ps := A_names_of) fun _ _ _ _ _ _ us hl => match us, hl with | [_, _], _ => rfl
  have F_is_line := fun_mk (st := s_is_line) l_is_line c_is_line k_is_line
  have b_is_line := F_is_line.binds (ps := A_is_line) fun _ _ _ _ _ _ us hl => match us, hl with | [_], _ => rfl
  have F_term_of := fun_mk (st := s_term_of) l_term_of c_term_of k_term_of
  have b_term_of := F_term_of.binds (ps := A_term_of) fun _ _ _ _ _ _ us hl => match us, hl with | [_, _], _ => rfl
  have F_check_lines := fun_mk (st := s_check_lines) l_check_lines c_check_lines k_check_lines
  have b_check_lines := F_check_lines.binds (ps := A_check_lines) fun _ _ _ _ _ _ us hl => match us, hl with | [_, _], _ => rfl
  have F_read_terms := fun_mk (st := s_read_terms) l_read_terms c_read_terms k_read_terms
  have b_read_terms := F_read_terms.binds (ps := A_read_terms) fun _ _ _ _ _ _ us hl => match us, hl with | [_, _], _ => rfl
  have F_read_steps := fun_mk (st := s_read_steps) l_read_steps c_read_steps k_read_steps
  have b_read_steps := F_read_steps.binds (ps := A_read_steps) fun _ _ _ _ _ _ us hl => match us, hl with | [_, _, _], _ => rfl
  have F_text_of := fun_mk (st := s_text_of) l_text_of c_text_of k_text_of
  have b_text_of := F_text_of.binds (ps := A_text_of) fun _ _ _ _ _ _ us hl => match us, hl with | [_, _, _], _ => rfl
  have F_check_bids := fun_mk (st := s_check_bids) l_check_bids c_check_bids k_check_bids
  have b_check_bids := F_check_bids.binds (ps := A_check_bids) fun _ _ _ _ _ _ us hl => match us, hl with | [_, _], _ => rfl
  have F_part_worth := fun_mk (st := s_part_worth) l_part_worth c_part_worth k_part_worth
  have b_part_worth := F_part_worth.binds (ps := A_part_worth) fun _ _ _ _ _ _ us hl => match us, hl with | [_, _], _ => rfl
  have F_term_worth := fun_mk (st := s_term_worth) l_term_worth c_term_worth k_term_worth
  have b_term_worth := F_term_worth.binds (ps := A_term_worth) fun _ _ _ _ _ _ us hl => match us, hl with | [_, _], _ => rfl
  have F_standing := fun_mk (st := s_standing) l_standing c_standing k_standing
  have b_standing := F_standing.binds (ps := A_standing) fun _ _ _ _ _ _ us hl => match us, hl with | [_, _], _ => rfl
  have F_sale := fun_mk (st := s_sale) l_sale c_sale k_sale
  have b_sale := F_sale.binds (ps := A_sale) fun _ _ _ _ _ _ us hl => match us, hl with | [_, _, _, _], _ => rfl
  have F_holds := fun_mk (st := s_holds) l_holds c_holds k_holds
  have b_holds := F_holds.binds (ps := A_holds) fun _ _ _ _ _ _ us hl => match us, hl with | [_, _], _ => rfl
  have F__law_source := fun_mk (st := s__law_source) l__law_source c__law_source k__law_source
  have b__law_source := F__law_source.binds (ps := A__law_source) fun _ _ _ _ _ _ us hl => match us, hl with | [_, _], _ => rfl
  have F__law_take := fun_mk (st := s__law_take) l__law_take c__law_take k__law_take
  have b__law_take := F__law_take.binds (ps := A__law_take) fun _ _ _ _ _ _ us hl => match us, hl with | [_, _], _ => rfl
  have F__law_names := fun_mk (st := s__law_names) l__law_names c__law_names k__law_names
  have b__law_names := F__law_names.binds (ps := A__law_names) fun _ _ _ _ _ _ us hl => match us, hl with | [_, _], _ => rfl
  have F__law_piece := fun_mk (st := s__law_piece) l__law_piece c__law_piece k__law_piece
  have b__law_piece := F__law_piece.binds (ps := A__law_piece) fun _ _ _ _ _ _ us hl => match us, hl with | [_, _], _ => rfl
  have F__law_integers := fun_mk (st := s__law_integers) l__law_integers c__law_integers k__law_integers
  have b__law_integers := F__law_integers.binds (ps := A__law_integers) fun _ _ _ _ _ _ us hl => match us, hl with | [_], _ => rfl
  have F__law_offers := fun_mk (st := s__law_offers) l__law_offers c__law_offers k__law_offers
  have b__law_offers := F__law_offers.binds (ps := A__law_offers) fun _ _ _ _ _ _ us hl => match us, hl with | [_, _], _ => rfl
  have F__law_ahead := fun_mk (st := s__law_ahead) l__law_ahead c__law_ahead k__law_ahead
  have b__law_ahead := F__law_ahead.binds (ps := A__law_ahead) fun _ _ _ _ _ _ us hl => match us, hl with | [_, _], _ => rfl
  have F__law_right := fun_mk (st := s__law_right) l__law_right c__law_right k__law_right
  have b__law_right := F__law_right.binds (ps := A__law_right) fun _ _ _ _ _ _ us hl => match us, hl with | [_], _ => rfl
  have F_law := fun_mk (st := s_law) l_law c_law k_law
  have F_Rule___init__ := fun_mk (st := s_Rule___init__) l_Rule___init__ c_Rule___init__ k_Rule___init__
  have b_Rule___init__ := F_Rule___init__.binds (ps := A_Rule___init__) fun _ _ _ _ _ _ us hl => match us, hl with | [_, _, _, _], _ => rfl
  have F_Rule_worths := fun_mk (st := s_Rule_worths) l_Rule_worths c_Rule_worths k_Rule_worths
  have b_Rule_worths := F_Rule_worths.binds (ps := A_Rule_worths) fun _ _ _ _ _ _ us hl => match us, hl with | [_, _], _ => rfl
  have F_Rule_outcome := fun_mk (st := s_Rule_outcome) l_Rule_outcome c_Rule_outcome k_Rule_outcome
  have b_Rule_outcome := F_Rule_outcome.binds (ps := A_Rule_outcome) fun _ _ _ _ _ _ us hl => match us, hl with | [_, _], _ => rfl
  have F_Rule_seats := fun_mk (st := s_Rule_seats) l_Rule_seats c_Rule_seats k_Rule_seats
  have b_Rule_seats := F_Rule_seats.binds (ps := A_Rule_seats) fun _ _ _ _ _ _ us hl => match us, hl with | [_], _ => rfl
  have F_Rule_lines := fun_mk (st := s_Rule_lines) l_Rule_lines c_Rule_lines k_Rule_lines
  have b_Rule_lines := F_Rule_lines.binds (ps := A_Rule_lines) fun _ _ _ _ _ _ us hl => match us, hl with | [_], _ => rfl
  have B : Bf K mg aS aO := ⟨PySem.W.mg_none_of X G z_isinstance, PySem.W.mg_none_of X G z_int, PySem.W.mg_none_of X G z_bool, PySem.W.mg_none_of X G z_str, PySem.W.mg_none_of X G z_tuple, PySem.W.mg_none_of X G z_list, PySem.W.mg_none_of X G z_len, PySem.W.mg_none_of X G z_all, PySem.W.mg_none_of X G z_range, PySem.W.mg_none_of X G z_enumerate, PySem.W.mg_none_of X G z_zip, PySem.W.mg_none_of X G z_dict, PySem.W.mg_none_of X G z_abs, PySem.W.mg_none_of X G z_max, PySem.W.mg_none_of X G z_min, PySem.W.mg_none_of X G z_divmod, PySem.W.mg_none_of X G z_repr, ⟨_, PySem.W.mg_of X G v_LETTERS, _, rfl⟩, ⟨_, PySem.W.mg_of X G v_DIGITS, _, rfl⟩, ⟨_, PySem.W.mg_of X G v_LONGEST_NAME, _, rfl⟩, ⟨_, PySem.W.mg_of X G v_MOST_SEATS, _, rfl⟩, ⟨_, PySem.W.mg_of X G v_MOST_LINES, _, rfl⟩, ⟨_, PySem.W.mg_of X G v_MOST_ROWS, _, rfl⟩, ⟨_, PySem.W.mg_of X G v_MOST_PARTS, _, rfl⟩, ⟨_, PySem.W.mg_of X G v_MOST_INTEGER, _, rfl⟩, ⟨_, PySem.W.mg_of X G v_SIGNS, rfl⟩, ⟨_, PySem.W.mg_of X G v_ORDERS, rfl⟩, fun H => .inr ⟨_, _, _, w_SIGNS, rfl, rfl, (show 2 ≤ sizeLine by decide), .cons ⟨_, rfl⟩ (.cons ⟨_, rfl⟩ .nil)⟩, fun H => .inr ⟨_, _, _, w_ORDERS, rfl, rfl, (show 2 ≤ sizeLine by decide), .cons ⟨_, rfl⟩ (.cons ⟨_, rfl⟩ .nil)⟩⟩
  have R : RC K C := ⟨⟨pg, hd, po, sa⟩, n_passed, n_terms, n_steps, n_text⟩
  have N_sorted : mg "sorted" = none := PySem.W.mg_none_of X G z_sorted
  have g_Rule : ∃ u, mg "Rule" = some u ∧ RelV (.ref C) u := ⟨_, PySem.W.mg_of X G aC, rfl⟩
  refine ⟨PySem.W.fnOf "law" "law" (defArgs s_law) (defBody s_law) (defScope s_law) .none kV_law dc_law pm_law an_law cd_law ct_law, fun s v => .of_eq rfl, fun base _ _ TB => ?_⟩
  have TF_standing : TabF K mg base (PySem.W.fnOf "standing" "standing" (defArgs s_standing) (defBody s_standing) (defScope s_standing) .none kV_standing dc_standing pm_standing an_standing cd_standing ct_standing) ("standing" ++ ".<locals>." ++ "<lambda>") := ⟨cT_standing, tT_standing, tc_standing, TB (cT_standing, tT_standing) (by simp), by rw [htb]; simp, fun p hp e => by
    rw [htb] at hp
    simp only [List.mem_cons, List.not_mem_nil, or_false] at hp
    rcases hp with rfl | rfl
    · exact rfl
    · exact (ne__law_right_standing e).elim
    ⟩
  have TF__law_right : TabF K mg base (PySem.W.fnOf "_law_right" "_law_right" (defArgs s__law_right) (defBody s__law_right) (defScope s__law_right) .none kV__law_right dc__law_right pm__law_right an__law_right cd__law_right ct__law_right) ("_law_right" ++ ".<locals>." ++ "<lambda>") := ⟨cT__law_right, tT__law_right, tc__law_right, TB (cT__law_right, tT__law_right) (by simp), by rw [htb]; simp, fun p hp e => by
    rw [htb] at hp
    simp only [List.mem_cons, List.not_mem_nil, or_false] at hp
    rcases hp with rfl | rfl
    · exact (ne__law_right_standing e.symm).elim
    · exact rfl
    ⟩
  have C_is_integer : Cal l.prog w K mg base 1 "is_integer" (sp_is_integer K) := ⟨_, _, _, ok_is_integer F_is_integer B, PySem.W.mg_of X G a_is_integer, k_is_integer, b_is_integer⟩
  have C_is_name : Cal l.prog w K mg base 1 "is_name" (sp_is_name K) := ⟨_, _, _, ok_is_name F_is_name B, PySem.W.mg_of X G a_is_name, k_is_name, b_is_name⟩
  have C_integer_of : Cal l.prog w K mg base 1 "integer_of" (sp_integer_of K) := ⟨_, _, _, ok_integer_of F_integer_of B, PySem.W.mg_of X G a_integer_of, k_integer_of, b_integer_of⟩
  have C_part_of : Cal l.prog w K mg base 2 "part_of" (sp_part_of K) := ⟨_, _, _, ok_part_of F_part_of B C_integer_of, PySem.W.mg_of X G a_part_of, k_part_of, b_part_of⟩
  have C_place_of : Cal l.prog w K mg base 1 "place_of" (sp_place_of K) := ⟨_, _, _, ok_place_of F_place_of B, PySem.W.mg_of X G a_place_of, k_place_of, b_place_of⟩
  have C_condition_of : Cal l.prog w K mg base 3 "condition_of" (sp_condition_of K) := ⟨_, _, _, ok_condition_of F_condition_of B C_part_of, PySem.W.mg_of X G a_condition_of, k_condition_of, b_condition_of⟩
  have C_done_of : Cal l.prog w K mg base 3 "done_of" (sp_done_of K) := ⟨_, _, _, ok_done_of F_done_of B C_part_of C_place_of, PySem.W.mg_of X G a_done_of, k_done_of, b_done_of⟩
  have C_step_of : Cal l.prog w K mg base 4 "step_of" (sp_step_of K) := ⟨_, _, _, ok_step_of F_step_of B C_condition_of C_done_of, PySem.W.mg_of X G a_step_of, k_step_of, b_step_of⟩
  have C_check_seats : Cal l.prog w K mg base 2 "check_seats" (sp_check_seats K) := ⟨_, _, _, ok_check_seats F_check_seats B C_is_name, PySem.W.mg_of X G a_check_seats, k_check_seats, b_check_seats⟩
  have C_names_of : Cal l.prog w K mg base 1 "names_of" (sp_names_of K) := ⟨_, _, _, ok_names_of F_names_of B, PySem.W.mg_of X G a_names_of, k_names_of, b_names_of⟩
  have C_is_line : Cal l.prog w K mg base 2 "is_line" (sp_is_line K) := ⟨_, _, _, ok_is_line F_is_line B C_is_name, PySem.W.mg_of X G a_is_line, k_is_line, b_is_line⟩
  have C_term_of : Cal l.prog w K mg base 3 "term_of" (sp_term_of K) := ⟨_, _, _, ok_term_of F_term_of B C_part_of C_place_of, PySem.W.mg_of X G a_term_of, k_term_of, b_term_of⟩
  have C_check_lines : Cal l.prog w K mg base 3 "check_lines" (sp_check_linesG K) := ⟨_, _, _, ok_check_linesG F_check_lines B C_is_line C_names_of, PySem.W.mg_of X G a_check_lines, k_check_lines, b_check_lines⟩
  have C_read_terms : Cal l.prog w K mg base 4 "read_terms" (sp_read_termsG K) := ⟨_, _, _, ok_read_termsG F_read_terms B C_term_of C_names_of, PySem.W.mg_of X G a_read_terms, k_read_terms, b_read_terms⟩
  have C_read_steps : Cal l.prog w K mg base 5 "read_steps" (sp_read_steps K) := ⟨_, _, _, ok_read_steps F_read_steps B C_step_of, PySem.W.mg_of X G a_read_steps, k_read_steps, b_read_steps⟩
  have C_text_of : Cal l.prog w K mg base 1 "text_of" (sp_text_ofL K) := ⟨_, _, _, ok_text_ofL F_text_of B, PySem.W.mg_of X G a_text_of, k_text_of, b_text_of⟩
  have C_check_bids : Cal l.prog w K mg base 2 "check_bids" (sp_check_bids K) := ⟨_, _, _, ok_check_bids F_check_bids B C_is_integer, PySem.W.mg_of X G a_check_bids, k_check_bids, b_check_bids⟩
  have C_part_worth : Cal l.prog w K mg base 2 "part_worth" (sp_part_worth K) := ⟨_, _, _, ok_part_worth F_part_worth B C_is_integer, PySem.W.mg_of X G a_part_worth, k_part_worth, b_part_worth⟩
  have C_term_worth : Cal l.prog w K mg base 3 "term_worth" (sp_term_worth K) := ⟨_, _, _, ok_term_worth F_term_worth B N_sorted C_part_worth, PySem.W.mg_of X G a_term_worth, k_term_worth, b_term_worth⟩
  have C_standing : Cal l.prog w K mg base 2 "standing" (sp_standing K) := ⟨_, _, _, ok_standingG F_standing B N_sorted TF_standing, PySem.W.mg_of X G a_standing, k_standing, b_standing⟩
  have C_sale : Cal l.prog w K mg base 3 "sale" (sp_saleG K) := ⟨_, _, _, ok_saleG F_sale B C_is_integer C_part_worth C_standing, PySem.W.mg_of X G a_sale, k_sale, b_sale⟩
  have C_holds : Cal l.prog w K mg base 3 "holds" (sp_holds K) := ⟨_, _, _, ok_holds F_holds B C_part_worth, PySem.W.mg_of X G a_holds, k_holds, b_holds⟩
  have C_Rule : Mak l.prog w K mg base 6 "Rule" C (sp_RuleL K C) := ⟨_, _, _, ⟨mk, a_Rule___init__, i_Rule___init__, kc⟩, ok_Rule_initL F_Rule___init__ R B C_check_seats C_check_lines C_read_terms C_read_steps C_names_of C_text_of, PySem.W.mg_of X G aC, b_Rule___init__⟩
  have P_seats : PrX l.prog w K mg base 1 C "seats" (sp_seatsL K C) := ⟨_, _, _, _, R.cls, ⟨a_Rule_seats, g_Rule_seats, t_Rule_seats, _, r_Rule_seats⟩, ok_Rule_seatsL F_Rule_seats R, b_Rule_seats⟩
  have P_lines : PrX l.prog w K mg base 1 C "lines" (sp_linesL K C) := ⟨_, _, _, _, R.cls, ⟨a_Rule_lines, g_Rule_lines, t_Rule_lines, _, r_Rule_lines⟩, ok_Rule_linesL F_Rule_lines R, b_Rule_lines⟩
  have M_worths : Met l.prog w K mg base 4 C "worths" (sp_worthsL K C) := ⟨_, _, _, R.cls, ⟨a_Rule_worths, i_Rule_worths, k_Rule_worths⟩, ok_Rule_worthsL F_Rule_worths R B P_seats P_lines C_names_of C_term_worth, b_Rule_worths⟩
  have M_outcome : Met l.prog w K mg base 5 C "outcome" (sp_outG K C) := ⟨_, _, _, R.cls, ⟨a_Rule_outcome, i_Rule_outcome, k_Rule_outcome⟩, ok_Rule_outG F_Rule_outcome R B P_seats C_check_bids M_worths C_holds C_sale, b_Rule_outcome⟩
  have K_outcome : MetK l.prog w K mg base 5 C "outcome" ["bids"] (sp_outG K C) kap := ⟨_, _, A_Rule_outcome, kap, R.cls, ⟨a_Rule_outcome, i_Rule_outcome, k_Rule_outcome⟩, ok_Rule_outG F_Rule_outcome R B P_seats C_check_bids M_worths C_holds C_sale, ⟨fun s us ws X l1 l2 => match us, ws, l1, l2 with | [_], [_], _, _ => .of_eq rfl, fun r1 r2 => kap_rel r1 r2⟩⟩
  have C__law_source : Cal l.prog w K mg base 1 "_law_source" (sp_source K) := ⟨_, _, _, ok__law_source F__law_source B, PySem.W.mg_of X G a__law_source, k__law_source, b__law_source⟩
  have C__law_take : Cal l.prog w K mg base 1 "_law_take" (sp_take K) := ⟨_, _, _, ok__law_take F__law_take B, PySem.W.mg_of X G a__law_take, k__law_take, b__law_take⟩
  have C__law_names : Cal l.prog w K mg base 2 "_law_names" (sp_lnames K) := ⟨_, _, _, ok__law_names F__law_names B C__law_take, PySem.W.mg_of X G a__law_names, k__law_names, b__law_names⟩
  have C__law_piece : Cal l.prog w K mg base 2 "_law_piece" (sp_piece K) := ⟨_, _, _, ok__law_piece F__law_piece B C__law_take, PySem.W.mg_of X G a__law_piece, k__law_piece, b__law_piece⟩
  have C__law_integers : Cal l.prog w K mg base 1 "_law_integers" (sp_integers K) := ⟨_, _, _, ok__law_integers F__law_integers B, PySem.W.mg_of X G a__law_integers, k__law_integers, b__law_integers⟩
  have C__law_offers : Cal l.prog w K mg base 2 "_law_offers" (sp_offers K) := ⟨_, _, _, ok__law_offers F__law_offers B C__law_take C__law_integers, PySem.W.mg_of X G a__law_offers, k__law_offers, b__law_offers⟩
  have C__law_ahead : Cal l.prog w K mg base 1 "_law_ahead" (sp_ahead K) := ⟨_, _, _, ok__law_ahead F__law_ahead B, PySem.W.mg_of X G a__law_ahead, k__law_ahead, b__law_ahead⟩
  have C__law_right : CalG l.prog w K mg base 9 "_law_right" (sp_right K) := ⟨_, _, _, ok__law_right F__law_right B N_sorted TF__law_right C__law_take C__law_names C__law_piece C__law_offers C__law_ahead C_Rule M_outcome K_outcome, PySem.W.mg_of X G a__law_right, k__law_right, b__law_right⟩
  exact ok_law F_law B C__law_source C__law_right (by decide)
set_option maxHeartbeats 1000000 in
theorem all_mkT {l : PySem.W.OpenLaw} {w : World} {K : PySem.W.Frag} {h : Heap} {mg : Str → Option Value} {fa C aS aO : Addr} (X : K.In h) (G : h.Ns mainGlobals mg) (hfa : mg "law" = some (.ref fa))
    {od_is_integer an_is_integer : Option Addr} {sl_is_integer : Array (Option Value)} {oc_is_integer kV_is_integer dc_is_integer pm_is_integer cd_is_integer ct_is_integer : Value} {f_is_integer : Addr}
    {od_is_name an_is_name : Option Addr} {sl_is_name : Array (Option Value)} {oc_is_name kV_is_name dc_is_name pm_is_name cd_is_name ct_is_name : Value} {f_is_name : Addr}
    {od_integer_of an_integer_of : Option Addr} {sl_integer_of : Array (Option Value)} {oc_integer_of kV_integer_of dc_integer_of pm_integer_of cd_integer_of ct_integer_of : Value} {f_integer_of : Addr}
    {od_part_of an_part_of : Option Addr} {sl_part_of : Array (Option Value)} {oc_part_of kV_part_of dc_part_of pm_part_of cd_part_of ct_part_of : Value} {f_part_of : Addr}
    {od_place_of an_place_of : Option Addr} {sl_place_of : Array (Option Value)} {oc_place_of kV_place_of dc_place_of pm_place_of cd_place_of ct_place_of : Value} {f_place_of : Addr}
    {od_condition_of an_condition_of : Option Addr} {sl_condition_of : Array (Option Value)} {oc_condition_of kV_condition_of dc_condition_of pm_condition_of cd_condition_of ct_condition_of : Value} {f_condition_of : Addr}
    {od_done_of an_done_of : Option Addr} {sl_done_of : Array (Option Value)} {oc_done_of kV_done_of dc_done_of pm_done_of cd_done_of ct_done_of : Value} {f_done_of : Addr}
    {od_step_of an_step_of : Option Addr} {sl_step_of : Array (Option Value)} {oc_step_of kV_step_of dc_step_of pm_step_of cd_step_of ct_step_of : Value} {f_step_of : Addr}
    {od_check_seats an_check_seats : Option Addr} {sl_check_seats : Array (Option Value)} {oc_check_seats kV_check_seats dc_check_seats pm_check_seats cd_check_seats ct_check_seats : Value} {f_check_seats : Addr}
    {od_names_of an_names_of : Option Addr} {sl_names_of : Array (Option Value)} {oc_names_of kV_names_of dc_names_of pm_names_of cd_names_of ct_names_of : Value} {f_names_of : Addr}
    {od_is_line an_is_line : Option Addr} {sl_is_line : Array (Option Value)} {oc_is_line kV_is_line dc_is_line pm_is_line cd_is_line ct_is_line : Value} {f_is_line : Addr}
    {od_term_of an_term_of : Option Addr} {sl_term_of : Array (Option Value)} {oc_term_of kV_term_of dc_term_of pm_term_of cd_term_of ct_term_of : Value} {f_term_of : Addr}
    {od_check_lines an_check_lines : Option Addr} {sl_check_lines : Array (Option Value)} {oc_check_lines kV_check_lines dc_check_lines pm_check_lines cd_check_lines ct_check_lines : Value} {f_check_lines : Addr}
    {od_read_terms an_read_terms : Option Addr} {sl_read_terms : Array (Option Value)} {oc_read_terms kV_read_terms dc_read_terms pm_read_terms cd_read_terms ct_read_terms : Value} {f_read_terms : Addr}
    {od_read_steps an_read_steps : Option Addr} {sl_read_steps : Array (Option Value)} {oc_read_steps kV_read_steps dc_read_steps pm_read_steps cd_read_steps ct_read_steps : Value} {f_read_steps : Addr}
    {od_text_of an_text_of : Option Addr} {sl_text_of : Array (Option Value)} {oc_text_of kV_text_of dc_text_of pm_text_of cd_text_of ct_text_of : Value} {f_text_of : Addr}
    {od_check_bids an_check_bids : Option Addr} {sl_check_bids : Array (Option Value)} {oc_check_bids kV_check_bids dc_check_bids pm_check_bids cd_check_bids ct_check_bids : Value} {f_check_bids : Addr}
    {od_part_worth an_part_worth : Option Addr} {sl_part_worth : Array (Option Value)} {oc_part_worth kV_part_worth dc_part_worth pm_part_worth cd_part_worth ct_part_worth : Value} {f_part_worth : Addr}
    {od_term_worth an_term_worth : Option Addr} {sl_term_worth : Array (Option Value)} {oc_term_worth kV_term_worth dc_term_worth pm_term_worth cd_term_worth ct_term_worth : Value} {f_term_worth : Addr}
    {od_standing an_standing : Option Addr} {sl_standing : Array (Option Value)} {oc_standing kV_standing dc_standing pm_standing cd_standing ct_standing : Value} {f_standing : Addr}
    {od_sale an_sale : Option Addr} {sl_sale : Array (Option Value)} {oc_sale kV_sale dc_sale pm_sale cd_sale ct_sale : Value} {f_sale : Addr}
    {od_holds an_holds : Option Addr} {sl_holds : Array (Option Value)} {oc_holds kV_holds dc_holds pm_holds cd_holds ct_holds : Value} {f_holds : Addr}
    {od__law_source an__law_source : Option Addr} {sl__law_source : Array (Option Value)} {oc__law_source kV__law_source dc__law_source pm__law_source cd__law_source ct__law_source : Value} {f__law_source : Addr}
    {od__law_take an__law_take : Option Addr} {sl__law_take : Array (Option Value)} {oc__law_take kV__law_take dc__law_take pm__law_take cd__law_take ct__law_take : Value} {f__law_take : Addr}
    {od__law_names an__law_names : Option Addr} {sl__law_names : Array (Option Value)} {oc__law_names kV__law_names dc__law_names pm__law_names cd__law_names ct__law_names : Value} {f__law_names : Addr}
    {od__law_piece an__law_piece : Option Addr} {sl__law_piece : Array (Option Value)} {oc__law_piece kV__law_piece dc__law_piece pm__law_piece cd__law_piece ct__law_piece : Value} {f__law_piece : Addr}
    {od__law_integers an__law_integers : Option Addr} {sl__law_integers : Array (Option Value)} {oc__law_integers kV__law_integers dc__law_integers pm__law_integers cd__law_integers ct__law_integers : Value} {f__law_integers : Addr}
    {od__law_offers an__law_offers : Option Addr} {sl__law_offers : Array (Option Value)} {oc__law_offers kV__law_offers dc__law_offers pm__law_offers cd__law_offers ct__law_offers : Value} {f__law_offers : Addr}
    {od__law_ahead an__law_ahead : Option Addr} {sl__law_ahead : Array (Option Value)} {oc__law_ahead kV__law_ahead dc__law_ahead pm__law_ahead cd__law_ahead ct__law_ahead : Value} {f__law_ahead : Addr}
    {od__law_right an__law_right : Option Addr} {sl__law_right : Array (Option Value)} {oc__law_right kV__law_right dc__law_right pm__law_right cd__law_right ct__law_right : Value} {f__law_right : Addr}
    {od_law an_law : Option Addr} {sl_law : Array (Option Value)} {oc_law kV_law dc_law pm_law cd_law ct_law : Value} {f_law : Addr}
    {od_Rule___init__ an_Rule___init__ : Option Addr} {sl_Rule___init__ : Array (Option Value)} {oc_Rule___init__ kV_Rule___init__ dc_Rule___init__ pm_Rule___init__ cd_Rule___init__ ct_Rule___init__ : Value} {f_Rule___init__ : Addr}
    {od_Rule_worths an_Rule_worths : Option Addr} {sl_Rule_worths : Array (Option Value)} {oc_Rule_worths kV_Rule_worths dc_Rule_worths pm_Rule_worths cd_Rule_worths ct_Rule_worths : Value} {f_Rule_worths : Addr}
    {od_Rule_outcome an_Rule_outcome : Option Addr} {sl_Rule_outcome : Array (Option Value)} {oc_Rule_outcome kV_Rule_outcome dc_Rule_outcome pm_Rule_outcome cd_Rule_outcome ct_Rule_outcome : Value} {f_Rule_outcome : Addr}
    {od_Rule_seats an_Rule_seats : Option Addr} {sl_Rule_seats : Array (Option Value)} {oc_Rule_seats kV_Rule_seats dc_Rule_seats pm_Rule_seats cd_Rule_seats ct_Rule_seats : Value} {f_Rule_seats : Addr}
    {p_Rule_seats : Addr} {re_Rule_seats : List Value}
    {od_Rule_lines an_Rule_lines : Option Addr} {sl_Rule_lines : Array (Option Value)} {oc_Rule_lines kV_Rule_lines dc_Rule_lines pm_Rule_lines cd_Rule_lines ct_Rule_lines : Value} {f_Rule_lines : Addr}
    {p_Rule_lines : Addr} {re_Rule_lines : List Value}
    {tk_LETTERS : Tok}
    {tk_DIGITS : Tok}
    {tk_LONGEST_NAME : Tok}
    {tk_MOST_SEATS : Tok}
    {tk_MOST_LINES : Tok}
    {tk_MOST_ROWS : Tok}
    {tk_MOST_PARTS : Tok}
    {tk_MOST_INTEGER : Tok}
    {t1 t2 : Tok} {sn_SIGNS : Nat} {so_SIGNS : Option Addr} {ss_SIGNS : Array (Option Value)}
    {t3 t4 : Tok} {sn_ORDERS : Nat} {so_ORDERS : Option Addr} {ss_ORDERS : Array (Option Value)}
    {cT_standing tT_standing cT__law_right tT__law_right : Addr}
    (a_is_integer : PySem.W.nsIn K mainGlobals "is_integer" = some (some (.ref f_is_integer)))
    (l_is_integer : K.lookup f_is_integer = some ⟨oc_is_integer, od_is_integer, .func (PySem.W.fnOf "is_integer" "is_integer" (defArgs s_is_integer) (defBody s_is_integer) (defScope s_is_integer) .none kV_is_integer dc_is_integer pm_is_integer an_is_integer cd_is_integer ct_is_integer), sl_is_integer⟩)
    (c_is_integer : PySem.W.codeIn K cd_is_integer "is_integer" = true)
    (k_is_integer : PySem.W.keepIn K (.ref f_is_integer) = true)
    (a_is_name : PySem.W.nsIn K mainGlobals "is_name" = some (some (.ref f_is_name)))
    (l_is_name : K.lookup f_is_name = some ⟨oc_is_name, od_is_name, .func (PySem.W.fnOf "is_name" "is_name" (defArgs s_is_name) (defBody s_is_name) (defScope s_is_name) .none kV_is_name dc_is_name pm_is_name an_is_name cd_is_name ct_is_name), sl_is_name⟩)
    (c_is_name : PySem.W.codeIn K cd_is_name "is_name" = true)
    (k_is_name : PySem.W.keepIn K (.ref f_is_name) = true)
    (a_integer_of : PySem.W.nsIn K mainGlobals "integer_of" = some (some (.ref f_integer_of)))
    (l_integer_of : K.lookup f_integer_of = some ⟨oc_integer_of, od_integer_of, .func (PySem.W.fnOf "integer_of" "integer_of" (defArgs s_integer_of) (defBody s_integer_of) (defScope s_integer_of) .none kV_integer_of dc_integer_of pm_integer_of an_integer_of cd_integer_of ct_integer_of), sl_integer_of⟩)
    (c_integer_of : PySem.W.codeIn K cd_integer_of "integer_of" = true)
    (k_integer_of : PySem.W.keepIn K (.ref f_integer_of) = true)
    (a_part_of : PySem.W.nsIn K mainGlobals "part_of" = some (some (.ref f_part_of)))
    (l_part_of : K.lookup f_part_of = some ⟨oc_part_of, od_part_of, .func (PySem.W.fnOf "part_of" "part_of" (defArgs s_part_of) (defBody s_part_of) (defScope s_part_of) .none kV_part_of dc_part_of pm_part_of an_part_of cd_part_of ct_part_of), sl_part_of⟩)
    (c_part_of : PySem.W.codeIn K cd_part_of "part_of" = true)
    (k_part_of : PySem.W.keepIn K (.ref f_part_of) = true)
    (a_place_of : PySem.W.nsIn K mainGlobals "place_of" = some (some (.ref f_place_of)))
    (l_place_of : K.lookup f_place_of = some ⟨oc_place_of, od_place_of, .func (PySem.W.fnOf "place_of" "place_of" (defArgs s_place_of) (defBody s_place_of) (defScope s_place_of) .none kV_place_of dc_place_of pm_place_of an_place_of cd_place_of ct_place_of), sl_place_of⟩)
    (c_place_of : PySem.W.codeIn K cd_place_of "place_of" = true)
    (k_place_of : PySem.W.keepIn K (.ref f_place_of) = true)
    (a_condition_of : PySem.W.nsIn K mainGlobals "condition_of" = some (some (.ref f_condition_of)))
    (l_condition_of : K.lookup f_condition_of = some ⟨oc_condition_of, od_condition_of, .func (PySem.W.fnOf "condition_of" "condition_of" (defArgs s_condition_of) (defBody s_condition_of) (defScope s_condition_of) .none kV_condition_of dc_condition_of pm_condition_of an_condition_of cd_condition_of ct_condition_of), sl_condition_of⟩)
    (c_condition_of : PySem.W.codeIn K cd_condition_of "condition_of" = true)
    (k_condition_of : PySem.W.keepIn K (.ref f_condition_of) = true)
    (a_done_of : PySem.W.nsIn K mainGlobals "done_of" = some (some (.ref f_done_of)))
    (l_done_of : K.lookup f_done_of = some ⟨oc_done_of, od_done_of, .func (PySem.W.fnOf "done_of" "done_of" (defArgs s_done_of) (defBody s_done_of) (defScope s_done_of) .none kV_done_of dc_done_of pm_done_of an_done_of cd_done_of ct_done_of), sl_done_of⟩)
    (c_done_of : PySem.W.codeIn K cd_done_of "done_of" = true)
    (k_done_of : PySem.W.keepIn K (.ref f_done_of) = true)
    (a_step_of : PySem.W.nsIn K mainGlobals "step_of" = some (some (.ref f_step_of)))
    (l_step_of : K.lookup f_step_of = some ⟨oc_step_of, od_step_of, .func (PySem.W.fnOf "step_of" "step_of" (defArgs s_step_of) (defBody s_step_of) (defScope s_step_of) .none kV_step_of dc_step_of pm_step_of an_step_of cd_step_of ct_step_of), sl_step_of⟩)
    (c_step_of : PySem.W.codeIn K cd_step_of "step_of" = true)
    (k_step_of : PySem.W.keepIn K (.ref f_step_of) = true)
    (a_check_seats : PySem.W.nsIn K mainGlobals "check_seats" = some (some (.ref f_check_seats)))
    (l_check_seats : K.lookup f_check_seats = some ⟨oc_check_seats, od_check_seats, .func (PySem.W.fnOf "check_seats" "check_seats" (defArgs s_check_seats) (defBody s_check_seats) (defScope s_check_seats) .none kV_check_seats dc_check_seats pm_check_seats an_check_seats cd_check_seats ct_check_seats), sl_check_seats⟩)
    (c_check_seats : PySem.W.codeIn K cd_check_seats "check_seats" = true)
    (k_check_seats : PySem.W.keepIn K (.ref f_check_seats) = true)
    (a_names_of : PySem.W.nsIn K mainGlobals "names_of" = some (some (.ref f_names_of)))
    (l_names_of : K.lookup f_names_of = some ⟨oc_names_of, od_names_of, .func (PySem.W.fnOf "names_of" "names_of" (defArgs s_names_of) (defBody s_names_of) (defScope s_names_of) .none kV_names_of dc_names_of pm_names_of an_names_of cd_names_of ct_names_of), sl_names_of⟩)
    (c_names_of : PySem.W.codeIn K cd_names_of "names_of" = true)
    (k_names_of : PySem.W.keepIn K (.ref f_names_of) = true)
    (a_is_line : PySem.W.nsIn K mainGlobals "is_line" = some (some (.ref f_is_line)))
    (l_is_line : K.lookup f_is_line = some ⟨oc_is_line, od_is_line, .func (PySem.W.fnOf "is_line" "is_line" (defArgs s_is_line) (defBody s_is_line) (defScope s_is_line) .none kV_is_line dc_is_line pm_is_line an_is_line cd_is_line ct_is_line), sl_is_line⟩)
    (c_is_line : PySem.W.codeIn K cd_is_line "is_line" = true)
    (k_is_line : PySem.W.keepIn K (.ref f_is_line) = true)
    (a_term_of : PySem.W.nsIn K mainGlobals "term_of" = some (some (.ref f_term_of)))
    (l_term_of : K.lookup f_term_of = some ⟨oc_term_of, od_term_of, .func (PySem.W.fnOf "term_of" "term_of" (defArgs s_term_of) (defBody s_term_of) (defScope s_term_of) .none kV_term_of dc_term_of pm_term_of an_term_of cd_term_of ct_term_of), sl_term_of⟩)
    (c_term_of : PySem.W.codeIn K cd_term_of "term_of" = true)
    (k_term_of : PySem.W.keepIn K (.ref f_term_of) = true)
    (a_check_lines : PySem.W.nsIn K mainGlobals "check_lines" = some (some (.ref f_check_lines)))
    (l_check_lines : K.lookup f_check_lines = some ⟨oc_check_lines, od_check_lines, .func (PySem.W.fnOf "check_lines" "check_lines" (defArgs s_check_lines) (defBody s_check_lines) (defScope s_check_lines) .none kV_check_lines dc_check_lines pm_check_lines an_check_lines cd_check_lines ct_check_lines), sl_check_lines⟩)
    (c_check_lines : PySem.W.codeIn K cd_check_lines "check_lines" = true)
    (k_check_lines : PySem.W.keepIn K (.ref f_check_lines) = true)
    (a_read_terms : PySem.W.nsIn K mainGlobals "read_terms" = some (some (.ref f_read_terms)))
    (l_read_terms : K.lookup f_read_terms = some ⟨oc_read_terms, od_read_terms, .func (PySem.W.fnOf "read_terms" "read_terms" (defArgs s_read_terms) (defBody s_read_terms) (defScope s_read_terms) .none kV_read_terms dc_read_terms pm_read_terms an_read_terms cd_read_terms ct_read_terms), sl_read_terms⟩)
    (c_read_terms : PySem.W.codeIn K cd_read_terms "read_terms" = true)
    (k_read_terms : PySem.W.keepIn K (.ref f_read_terms) = true)
    (a_read_steps : PySem.W.nsIn K mainGlobals "read_steps" = some (some (.ref f_read_steps)))
    (l_read_steps : K.lookup f_read_steps = some ⟨oc_read_steps, od_read_steps, .func (PySem.W.fnOf "read_steps" "read_steps" (defArgs s_read_steps) (defBody s_read_steps) (defScope s_read_steps) .none kV_read_steps dc_read_steps pm_read_steps an_read_steps cd_read_steps ct_read_steps), sl_read_steps⟩)
    (c_read_steps : PySem.W.codeIn K cd_read_steps "read_steps" = true)
    (k_read_steps : PySem.W.keepIn K (.ref f_read_steps) = true)
    (a_text_of : PySem.W.nsIn K mainGlobals "text_of" = some (some (.ref f_text_of)))
    (l_text_of : K.lookup f_text_of = some ⟨oc_text_of, od_text_of, .func (PySem.W.fnOf "text_of" "text_of" (defArgs s_text_of) (defBody s_text_of) (defScope s_text_of) .none kV_text_of dc_text_of pm_text_of an_text_of cd_text_of ct_text_of), sl_text_of⟩)
    (c_text_of : PySem.W.codeIn K cd_text_of "text_of" = true)
    (k_text_of : PySem.W.keepIn K (.ref f_text_of) = true)
    (a_check_bids : PySem.W.nsIn K mainGlobals "check_bids" = some (some (.ref f_check_bids)))
    (l_check_bids : K.lookup f_check_bids = some ⟨oc_check_bids, od_check_bids, .func (PySem.W.fnOf "check_bids" "check_bids" (defArgs s_check_bids) (defBody s_check_bids) (defScope s_check_bids) .none kV_check_bids dc_check_bids pm_check_bids an_check_bids cd_check_bids ct_check_bids), sl_check_bids⟩)
    (c_check_bids : PySem.W.codeIn K cd_check_bids "check_bids" = true)
    (k_check_bids : PySem.W.keepIn K (.ref f_check_bids) = true)
    (a_part_worth : PySem.W.nsIn K mainGlobals "part_worth" = some (some (.ref f_part_worth)))
    (l_part_worth : K.lookup f_part_worth = some ⟨oc_part_worth, od_part_worth, .func (PySem.W.fnOf "part_worth" "part_worth" (defArgs s_part_worth) (defBody s_part_worth) (defScope s_part_worth) .none kV_part_worth dc_part_worth pm_part_worth an_part_worth cd_part_worth ct_part_worth), sl_part_worth⟩)
    (c_part_worth : PySem.W.codeIn K cd_part_worth "part_worth" = true)
    (k_part_worth : PySem.W.keepIn K (.ref f_part_worth) = true)
    (a_term_worth : PySem.W.nsIn K mainGlobals "term_worth" = some (some (.ref f_term_worth)))
    (l_term_worth : K.lookup f_term_worth = some ⟨oc_term_worth, od_term_worth, .func (PySem.W.fnOf "term_worth" "term_worth" (defArgs s_term_worth) (defBody s_term_worth) (defScope s_term_worth) .none kV_term_worth dc_term_worth pm_term_worth an_term_worth cd_term_worth ct_term_worth), sl_term_worth⟩)
    (c_term_worth : PySem.W.codeIn K cd_term_worth "term_worth" = true)
    (k_term_worth : PySem.W.keepIn K (.ref f_term_worth) = true)
    (a_standing : PySem.W.nsIn K mainGlobals "standing" = some (some (.ref f_standing)))
    (l_standing : K.lookup f_standing = some ⟨oc_standing, od_standing, .func (PySem.W.fnOf "standing" "standing" (defArgs s_standing) (defBody s_standing) (defScope s_standing) .none kV_standing dc_standing pm_standing an_standing cd_standing ct_standing), sl_standing⟩)
    (c_standing : PySem.W.codeIn K cd_standing "standing" = true)
    (k_standing : PySem.W.keepIn K (.ref f_standing) = true)
    (a_sale : PySem.W.nsIn K mainGlobals "sale" = some (some (.ref f_sale)))
    (l_sale : K.lookup f_sale = some ⟨oc_sale, od_sale, .func (PySem.W.fnOf "sale" "sale" (defArgs s_sale) (defBody s_sale) (defScope s_sale) .none kV_sale dc_sale pm_sale an_sale cd_sale ct_sale), sl_sale⟩)
    (c_sale : PySem.W.codeIn K cd_sale "sale" = true)
    (k_sale : PySem.W.keepIn K (.ref f_sale) = true)
    (a_holds : PySem.W.nsIn K mainGlobals "holds" = some (some (.ref f_holds)))
    (l_holds : K.lookup f_holds = some ⟨oc_holds, od_holds, .func (PySem.W.fnOf "holds" "holds" (defArgs s_holds) (defBody s_holds) (defScope s_holds) .none kV_holds dc_holds pm_holds an_holds cd_holds ct_holds), sl_holds⟩)
    (c_holds : PySem.W.codeIn K cd_holds "holds" = true)
    (k_holds : PySem.W.keepIn K (.ref f_holds) = true)
    (a__law_source : PySem.W.nsIn K mainGlobals "_law_source" = some (some (.ref f__law_source)))
    (l__law_source : K.lookup f__law_source = some ⟨oc__law_source, od__law_source, .func (PySem.W.fnOf "_law_source" "_law_source" (defArgs s__law_source) (defBody s__law_source) (defScope s__law_source) .none kV__law_source dc__law_source pm__law_source an__law_source cd__law_source ct__law_source), sl__law_source⟩)
    (c__law_source : PySem.W.codeIn K cd__law_source "_law_source" = true)
    (k__law_source : PySem.W.keepIn K (.ref f__law_source) = true)
    (a__law_take : PySem.W.nsIn K mainGlobals "_law_take" = some (some (.ref f__law_take)))
    (l__law_take : K.lookup f__law_take = some ⟨oc__law_take, od__law_take, .func (PySem.W.fnOf "_law_take" "_law_take" (defArgs s__law_take) (defBody s__law_take) (defScope s__law_take) .none kV__law_take dc__law_take pm__law_take an__law_take cd__law_take ct__law_take), sl__law_take⟩)
    (c__law_take : PySem.W.codeIn K cd__law_take "_law_take" = true)
    (k__law_take : PySem.W.keepIn K (.ref f__law_take) = true)
    (a__law_names : PySem.W.nsIn K mainGlobals "_law_names" = some (some (.ref f__law_names)))
    (l__law_names : K.lookup f__law_names = some ⟨oc__law_names, od__law_names, .func (PySem.W.fnOf "_law_names" "_law_names" (defArgs s__law_names) (defBody s__law_names) (defScope s__law_names) .none kV__law_names dc__law_names pm__law_names an__law_names cd__law_names ct__law_names), sl__law_names⟩)
    (c__law_names : PySem.W.codeIn K cd__law_names "_law_names" = true)
    (k__law_names : PySem.W.keepIn K (.ref f__law_names) = true)
    (a__law_piece : PySem.W.nsIn K mainGlobals "_law_piece" = some (some (.ref f__law_piece)))
    (l__law_piece : K.lookup f__law_piece = some ⟨oc__law_piece, od__law_piece, .func (PySem.W.fnOf "_law_piece" "_law_piece" (defArgs s__law_piece) (defBody s__law_piece) (defScope s__law_piece) .none kV__law_piece dc__law_piece pm__law_piece an__law_piece cd__law_piece ct__law_piece), sl__law_piece⟩)
    (c__law_piece : PySem.W.codeIn K cd__law_piece "_law_piece" = true)
    (k__law_piece : PySem.W.keepIn K (.ref f__law_piece) = true)
    (a__law_integers : PySem.W.nsIn K mainGlobals "_law_integers" = some (some (.ref f__law_integers)))
    (l__law_integers : K.lookup f__law_integers = some ⟨oc__law_integers, od__law_integers, .func (PySem.W.fnOf "_law_integers" "_law_integers" (defArgs s__law_integers) (defBody s__law_integers) (defScope s__law_integers) .none kV__law_integers dc__law_integers pm__law_integers an__law_integers cd__law_integers ct__law_integers), sl__law_integers⟩)
    (c__law_integers : PySem.W.codeIn K cd__law_integers "_law_integers" = true)
    (k__law_integers : PySem.W.keepIn K (.ref f__law_integers) = true)
    (a__law_offers : PySem.W.nsIn K mainGlobals "_law_offers" = some (some (.ref f__law_offers)))
    (l__law_offers : K.lookup f__law_offers = some ⟨oc__law_offers, od__law_offers, .func (PySem.W.fnOf "_law_offers" "_law_offers" (defArgs s__law_offers) (defBody s__law_offers) (defScope s__law_offers) .none kV__law_offers dc__law_offers pm__law_offers an__law_offers cd__law_offers ct__law_offers), sl__law_offers⟩)
    (c__law_offers : PySem.W.codeIn K cd__law_offers "_law_offers" = true)
    (k__law_offers : PySem.W.keepIn K (.ref f__law_offers) = true)
    (a__law_ahead : PySem.W.nsIn K mainGlobals "_law_ahead" = some (some (.ref f__law_ahead)))
    (l__law_ahead : K.lookup f__law_ahead = some ⟨oc__law_ahead, od__law_ahead, .func (PySem.W.fnOf "_law_ahead" "_law_ahead" (defArgs s__law_ahead) (defBody s__law_ahead) (defScope s__law_ahead) .none kV__law_ahead dc__law_ahead pm__law_ahead an__law_ahead cd__law_ahead ct__law_ahead), sl__law_ahead⟩)
    (c__law_ahead : PySem.W.codeIn K cd__law_ahead "_law_ahead" = true)
    (k__law_ahead : PySem.W.keepIn K (.ref f__law_ahead) = true)
    (a__law_right : PySem.W.nsIn K mainGlobals "_law_right" = some (some (.ref f__law_right)))
    (l__law_right : K.lookup f__law_right = some ⟨oc__law_right, od__law_right, .func (PySem.W.fnOf "_law_right" "_law_right" (defArgs s__law_right) (defBody s__law_right) (defScope s__law_right) .none kV__law_right dc__law_right pm__law_right an__law_right cd__law_right ct__law_right), sl__law_right⟩)
    (c__law_right : PySem.W.codeIn K cd__law_right "_law_right" = true)
    (k__law_right : PySem.W.keepIn K (.ref f__law_right) = true)
    (a_law : PySem.W.nsIn K mainGlobals "law" = some (some (.ref f_law)))
    (l_law : K.lookup f_law = some ⟨oc_law, od_law, .func (PySem.W.fnOf "law" "law" (defArgs s_law) (defBody s_law) (defScope s_law) .none kV_law dc_law pm_law an_law cd_law ct_law), sl_law⟩)
    (c_law : PySem.W.codeIn K cd_law "law" = true)
    (k_law : PySem.W.keepIn K (.ref f_law) = true)
    (aC : PySem.W.nsIn K mainGlobals "Rule" = some (some (.ref C)))
    (a_Rule___init__ : PySem.W.findIn K (.ref C) "__init__" = some (some (.ref f_Rule___init__)))
    (i_Rule___init__ : PySem.W.isFn K (.ref f_Rule___init__) = true)
    (l_Rule___init__ : K.lookup f_Rule___init__ = some ⟨oc_Rule___init__, od_Rule___init__, .func (PySem.W.fnOf "__init__" "Rule.__init__" (defArgs s_Rule___init__) (defBody s_Rule___init__) (defScope s_Rule___init__) .none kV_Rule___init__ dc_Rule___init__ pm_Rule___init__ an_Rule___init__ cd_Rule___init__ ct_Rule___init__), sl_Rule___init__⟩)
    (c_Rule___init__ : PySem.W.codeIn K cd_Rule___init__ "Rule.__init__" = true)
    (k_Rule___init__ : PySem.W.keepIn K (.ref f_Rule___init__) = true)
    (a_Rule_worths : PySem.W.findIn K (.ref C) "worths" = some (some (.ref f_Rule_worths)))
    (i_Rule_worths : PySem.W.isFn K (.ref f_Rule_worths) = true)
    (l_Rule_worths : K.lookup f_Rule_worths = some ⟨oc_Rule_worths, od_Rule_worths, .func (PySem.W.fnOf "worths" "Rule.worths" (defArgs s_Rule_worths) (defBody s_Rule_worths) (defScope s_Rule_worths) .none kV_Rule_worths dc_Rule_worths pm_Rule_worths an_Rule_worths cd_Rule_worths ct_Rule_worths), sl_Rule_worths⟩)
    (c_Rule_worths : PySem.W.codeIn K cd_Rule_worths "Rule.worths" = true)
    (k_Rule_worths : PySem.W.keepIn K (.ref f_Rule_worths) = true)
    (a_Rule_outcome : PySem.W.findIn K (.ref C) "outcome" = some (some (.ref f_Rule_outcome)))
    (i_Rule_outcome : PySem.W.isFn K (.ref f_Rule_outcome) = true)
    (l_Rule_outcome : K.lookup f_Rule_outcome = some ⟨oc_Rule_outcome, od_Rule_outcome, .func (PySem.W.fnOf "outcome" "Rule.outcome" (defArgs s_Rule_outcome) (defBody s_Rule_outcome) (defScope s_Rule_outcome) .none kV_Rule_outcome dc_Rule_outcome pm_Rule_outcome an_Rule_outcome cd_Rule_outcome ct_Rule_outcome), sl_Rule_outcome⟩)
    (c_Rule_outcome : PySem.W.codeIn K cd_Rule_outcome "Rule.outcome" = true)
    (k_Rule_outcome : PySem.W.keepIn K (.ref f_Rule_outcome) = true)
    (a_Rule_seats : PySem.W.findIn K (.ref C) "seats" = some (some (.ref p_Rule_seats)))
    (g_Rule_seats : PySem.W.specialIn K (.ref p_Rule_seats) "__get__" = some (some (.builtin "property.__get__")))
    (t_Rule_seats : PySem.W.takesIn K (.ref p_Rule_seats) = some true)
    (r_Rule_seats : PySem.W.recIn K p_Rule_seats "property" = some (.ref f_Rule_seats :: re_Rule_seats))
    (l_Rule_seats : K.lookup f_Rule_seats = some ⟨oc_Rule_seats, od_Rule_seats, .func (PySem.W.fnOf "seats" "Rule.seats" (defArgs s_Rule_seats) (defBody s_Rule_seats) (defScope s_Rule_seats) .none kV_Rule_seats dc_Rule_seats pm_Rule_seats an_Rule_seats cd_Rule_seats ct_Rule_seats), sl_Rule_seats⟩)
    (c_Rule_seats : PySem.W.codeIn K cd_Rule_seats "Rule.seats" = true)
    (k_Rule_seats : PySem.W.keepIn K (.ref f_Rule_seats) = true)
    (a_Rule_lines : PySem.W.findIn K (.ref C) "lines" = some (some (.ref p_Rule_lines)))
    (g_Rule_lines : PySem.W.specialIn K (.ref p_Rule_lines) "__get__" = some (some (.builtin "property.__get__")))
    (t_Rule_lines : PySem.W.takesIn K (.ref p_Rule_lines) = some true)
    (r_Rule_lines : PySem.W.recIn K p_Rule_lines "property" = some (.ref f_Rule_lines :: re_Rule_lines))
    (l_Rule_lines : K.lookup f_Rule_lines = some ⟨oc_Rule_lines, od_Rule_lines, .func (PySem.W.fnOf "lines" "Rule.lines" (defArgs s_Rule_lines) (defBody s_Rule_lines) (defScope s_Rule_lines) .none kV_Rule_lines dc_Rule_lines pm_Rule_lines an_Rule_lines cd_Rule_lines ct_Rule_lines), sl_Rule_lines⟩)
    (c_Rule_lines : PySem.W.codeIn K cd_Rule_lines "Rule.lines" = true)
    (k_Rule_lines : PySem.W.keepIn K (.ref f_Rule_lines) = true)
    (pg : PySem.W.plainGet K C Str.empty = true)
    (hd : PySem.W.hasDictIn K C = true)
    (po : PySem.W.plainOver K C = true)
    (sa : PySem.W.findIn K (.ref C) "__setattr__" = some (some (.builtin "object.__setattr__")))
    (mk : PySem.W.makesIn K C = true)
    (kc : PySem.W.keepIn K (.ref C) = true)
    (n_passed : PySem.W.findIn K (.ref C) "passed" = some none)
    (n_terms : PySem.W.findIn K (.ref C) "terms" = some none)
    (n_steps : PySem.W.findIn K (.ref C) "steps" = some none)
    (n_text : PySem.W.findIn K (.ref C) "text" = some none)
    (z_isinstance : PySem.W.nsIn K mainGlobals "isinstance" = some none)
    (z_int : PySem.W.nsIn K mainGlobals "int" = some none)
    (z_bool : PySem.W.nsIn K mainGlobals "bool" = some none)
    (z_str : PySem.W.nsIn K mainGlobals "str" = some none)
    (z_tuple : PySem.W.nsIn K mainGlobals "tuple" = some none)
    (z_list : PySem.W.nsIn K mainGlobals "list" = some none)
    (z_len : PySem.W.nsIn K mainGlobals "len" = some none)
    (z_all : PySem.W.nsIn K mainGlobals "all" = some none)
    (z_range : PySem.W.nsIn K mainGlobals "range" = some none)
    (z_enumerate : PySem.W.nsIn K mainGlobals "enumerate" = some none)
    (z_zip : PySem.W.nsIn K mainGlobals "zip" = some none)
    (z_dict : PySem.W.nsIn K mainGlobals "dict" = some none)
    (z_abs : PySem.W.nsIn K mainGlobals "abs" = some none)
    (z_max : PySem.W.nsIn K mainGlobals "max" = some none)
    (z_min : PySem.W.nsIn K mainGlobals "min" = some none)
    (z_divmod : PySem.W.nsIn K mainGlobals "divmod" = some none)
    (z_repr : PySem.W.nsIn K mainGlobals "repr" = some none)
    (z_sorted : PySem.W.nsIn K mainGlobals "sorted" = some none)
    (v_LETTERS : PySem.W.nsIn K mainGlobals "LETTERS" = some (some (.str "abcdefghijklmnopqrstuvwxyz" tk_LETTERS)))
    (v_DIGITS : PySem.W.nsIn K mainGlobals "DIGITS" = some (some (.str "0123456789" tk_DIGITS)))
    (v_LONGEST_NAME : PySem.W.nsIn K mainGlobals "LONGEST_NAME" = some (some (.int 8 tk_LONGEST_NAME)))
    (v_MOST_SEATS : PySem.W.nsIn K mainGlobals "MOST_SEATS" = some (some (.int 4 tk_MOST_SEATS)))
    (v_MOST_LINES : PySem.W.nsIn K mainGlobals "MOST_LINES" = some (some (.int 8 tk_MOST_LINES)))
    (v_MOST_ROWS : PySem.W.nsIn K mainGlobals "MOST_ROWS" = some (some (.int 6 tk_MOST_ROWS)))
    (v_MOST_PARTS : PySem.W.nsIn K mainGlobals "MOST_PARTS" = some (some (.int 6 tk_MOST_PARTS)))
    (v_MOST_INTEGER : PySem.W.nsIn K mainGlobals "MOST_INTEGER" = some (some (.int 1000000000000 tk_MOST_INTEGER)))
    (v_SIGNS : PySem.W.nsIn K mainGlobals "SIGNS" = some (some (.ref aS)))
    (w_SIGNS : K.lookup aS = some ⟨.type "tuple", so_SIGNS, .seq #[.str "<" t1, .str "<=" t2] sn_SIGNS, ss_SIGNS⟩)
    (v_ORDERS : PySem.W.nsIn K mainGlobals "ORDERS" = some (some (.ref aO)))
    (w_ORDERS : K.lookup aO = some ⟨.type "tuple", so_ORDERS, .seq #[.str "high" t3, .str "low" t4] sn_ORDERS, ss_ORDERS⟩)
    (tc_standing : cd_standing = .ref cT_standing)
    (tc__law_right : cd__law_right = .ref cT__law_right)
    (ne__law_right_standing : tT__law_right ≠ tT_standing)
    (hc_standing : PySem.W.codeHdIn K cT_standing tT_standing = true) (nl_standing : K.lookup tT_standing = none) (he_standing : h.get? tT_standing = some (PySem.W.tabObj #[]))
    (hc__law_right : PySem.W.codeHdIn K cT__law_right tT__law_right = true) (nl__law_right : K.lookup tT__law_right = none) (he__law_right : h.get? tT__law_right = some (PySem.W.tabObj #[]))
    : ∃ (fd : FuncData) (ts : List (Addr × Addr × Str)), (∀ p ∈ ts, h.get? p.2.1 = some { cls := .none, data := .fields #[] } ∧ K.lookup p.2.1 = none ∧ PySem.W.CodeHd h p.1 p.2.1) ∧ (∀ (s : Shared) (u : Value), BindsTo s fd ⟨[u], []⟩ [("_law_script", u)]) ∧ ∀ base : Heap, K.In base → base.Ns mainGlobals mg → (∀ p ∈ ts, LamX.TabB base mg p.1 p.2.1) → FnG l.prog w K mg base 10 fa fd ["_law_script"] (sp_law ⟨K, ts.map (·.2)⟩) := by
  obtain ⟨fd, h1, h2⟩ := all_mk (l := l) (w := w) (K := ⟨K, [(tT_standing, ("standing" ++ ".<locals>." ++ "<lambda>" : Str)), (tT__law_right, ("_law_right" ++ ".<locals>." ++ "<lambda>" : Str))]⟩) X G hfa rfl a_is_integer l_is_integer c_is_integer k_is_integer a_is_name l_is_name c_is_name k_is_name a_integer_of l_integer_of c_integer_of k_integer_of a_part_of l_part_of c_part_of k_part_of a_place_of l_place_of c_place_of k_place_of a_condition_of l_condition_of c_condition_of k_condition_of a_done_of l_done_of c_done_of k_done_of a_step_of l_step_of c_step_of k_step_of a_check_seats l_check_seats c_check_seats k_check_seats a_names_of l_names_of c_names_of k_names_of a_is_line l_is_line c_is_line k_is_line a_term_of l_term_of c_term_of k_term_of a_check_lines l_check_lines c_check_lines k_check_lines a_read_terms l_read_terms c_read_terms k_read_terms a_read_steps l_read_steps c_read_steps k_read_steps a_text_of l_text_of c_text_of k_text_of a_check_bids l_check_bids c_check_bids k_check_bids a_part_worth l_part_worth c_part_worth k_part_worth a_term_worth l_term_worth c_term_worth k_term_worth a_standing l_standing c_standing k_standing a_sale l_sale c_sale k_sale a_holds l_holds c_holds k_holds a__law_source l__law_source c__law_source k__law_source a__law_take l__law_take c__law_take k__law_take a__law_names l__law_names c__law_names k__law_names a__law_piece l__law_piece c__law_piece k__law_piece a__law_integers l__law_integers c__law_integers k__law_integers a__law_offers l__law_offers c__law_offers k__law_offers a__law_ahead l__law_ahead c__law_ahead k__law_ahead a__law_right l__law_right c__law_right k__law_right a_law l_law c_law k_law aC a_Rule___init__ i_Rule___init__ l_Rule___init__ c_Rule___init__ k_Rule___init__ a_Rule_worths i_Rule_worths l_Rule_worths c_Rule_worths k_Rule_worths a_Rule_outcome i_Rule_outcome l_Rule_outcome c_Rule_outcome k_Rule_outcome a_Rule_seats g_Rule_seats t_Rule_seats r_Rule_seats l_Rule_seats c_Rule_seats k_Rule_seats a_Rule_lines g_Rule_lines t_Rule_lines r_Rule_lines l_Rule_lines c_Rule_lines k_Rule_lines pg hd po sa mk kc n_passed n_terms n_steps n_text z_isinstance z_int z_bool z_str z_tuple z_list z_len z_all z_range z_enumerate z_zip z_dict z_abs z_max z_min z_divmod z_repr z_sorted v_LETTERS v_DIGITS v_LONGEST_NAME v_MOST_SEATS v_MOST_LINES v_MOST_ROWS v_MOST_PARTS v_MOST_INTEGER v_SIGNS w_SIGNS v_ORDERS w_ORDERS tc_standing tc__law_right ne__law_right_standing
  refine ⟨fd, [(cT_standing, tT_standing, ("standing" ++ ".<locals>." ++ "<lambda>" : Str)), (cT__law_right, tT__law_right, ("_law_right" ++ ".<locals>." ++ "<lambda>" : Str))], fun p hp => ?_, h1, fun base b1 b2 b3 => h2 base b1 b2 fun p hp => ?_⟩
  · simp only [List.mem_cons, List.not_mem_nil, or_false] at hp
    rcases hp with rfl | rfl
    · exact ⟨he_standing, nl_standing, PySem.W.codeHd_of_K X hc_standing⟩
    · exact ⟨he__law_right, nl__law_right, PySem.W.codeHd_of_K X hc__law_right⟩
  · simp only [List.mem_cons, List.not_mem_nil, or_false] at hp
    rcases hp with rfl | rfl
    · exact b3 (cT_standing, tT_standing, ("standing" ++ ".<locals>." ++ "<lambda>" : Str)) (by simp)
    · exact b3 (cT__law_right, tT__law_right, ("_law_right" ++ ".<locals>." ++ "<lambda>" : Str)) (by simp)
end Sb

set_option Elab.async false
open PySem PySem.W PyProof.Rows
set_option maxRecDepth 100000 in
set_option maxHeartbeats 0 in
theorem PySem.Challenge.cw_salebids_k04_standing_of_seats_holds : PySem.Challenge.rw_salebids_k04_standing_of_seats.Holds := by
  w_on; o_law; k_head; (case hw => w_witness2)
  k_fill
  refine Sb.walkGTs (l := PySem.Challenge.rw_salebids_k04_standing_of_seats) (n := 63) (k := 10) (x := "_law_script") (sp := fun K => Sb.sp_law K) rfl (by decide) rfl ⟨rfl, by decide, by decide⟩ (fun w h Y => by first | exact PySem.W.km_in_of Y | exact PySem.W.kIn_of Y) ?F (fun K H a ns hl tb hS => ⟨a, ns, rfl, hl, tb, hS, fun _ => rfl⟩)
  case F =>
    intro w mg fa h Y KX G hmg
    refine' Sb.all_mkT (tT_standing := 416) (tT__law_right := 471) KX G hmg ?a_is_integer ?l_is_integer ?c_is_integer ?k_is_integer ?a_is_name ?l_is_name ?c_is_name ?k_is_name ?a_integer_of ?l_integer_of ?c_integer_of ?k_integer_of ?a_part_of ?l_part_of ?c_part_of ?k_part_of ?a_place_of ?l_place_of ?c_place_of ?k_place_of ?a_condition_of ?l_condition_of ?c_condition_of ?k_condition_of ?a_done_of ?l_done_of ?c_done_of ?k_done_of ?a_step_of ?l_step_of ?c_step_of ?k_step_of ?a_check_seats ?l_check_seats ?c_check_seats ?k_check_seats ?a_names_of ?l_names_of ?c_names_of ?k_names_of ?a_is_line ?l_is_line ?c_is_line ?k_is_line ?a_term_of ?l_term_of ?c_term_of ?k_term_of ?a_check_lines ?l_check_lines ?c_check_lines ?k_check_lines ?a_read_terms ?l_read_terms ?c_read_terms ?k_read_terms ?a_read_steps ?l_read_steps ?c_read_steps ?k_read_steps ?a_text_of ?l_text_of ?c_text_of ?k_text_of ?a_check_bids ?l_check_bids ?c_check_bids ?k_check_bids ?a_part_worth ?l_part_worth ?c_part_worth ?k_part_worth ?a_term_worth ?l_term_worth ?c_term_worth ?k_term_worth ?a_standing ?l_standing ?c_standing ?k_standing ?a_sale ?l_sale ?c_sale ?k_sale ?a_holds ?l_holds ?c_holds ?k_holds ?a__law_source ?l__law_source ?c__law_source ?k__law_source ?a__law_take ?l__law_take ?c__law_take ?k__law_take ?a__law_names ?l__law_names ?c__law_names ?k__law_names ?a__law_piece ?l__law_piece ?c__law_piece ?k__law_piece ?a__law_integers ?l__law_integers ?c__law_integers ?k__law_integers ?a__law_offers ?l__law_offers ?c__law_offers ?k__law_offers ?a__law_ahead ?l__law_ahead ?c__law_ahead ?k__law_ahead ?a__law_right ?l__law_right ?c__law_right ?k__law_right ?a_law ?l_law ?c_law ?k_law ?aC ?a_Rule___init__ ?i_Rule___init__ ?l_Rule___init__ ?c_Rule___init__ ?k_Rule___init__ ?a_Rule_worths ?i_Rule_worths ?l_Rule_worths ?c_Rule_worths ?k_Rule_worths ?a_Rule_outcome ?i_Rule_outcome ?l_Rule_outcome ?c_Rule_outcome ?k_Rule_outcome ?a_Rule_seats ?g_Rule_seats ?t_Rule_seats ?r_Rule_seats ?l_Rule_seats ?c_Rule_seats ?k_Rule_seats ?a_Rule_lines ?g_Rule_lines ?t_Rule_lines ?r_Rule_lines ?l_Rule_lines ?c_Rule_lines ?k_Rule_lines ?pg ?hd ?po ?sa ?mk ?kc ?n_passed ?n_terms ?n_steps ?n_text ?z_isinstance ?z_int ?z_bool ?z_str ?z_tuple ?z_list ?z_len ?z_all ?z_range ?z_enumerate ?z_zip ?z_dict ?z_abs ?z_max ?z_min ?z_divmod ?z_repr ?z_sorted ?v_LETTERS ?v_DIGITS ?v_LONGEST_NAME ?v_MOST_SEATS ?v_MOST_LINES ?v_MOST_ROWS ?v_MOST_PARTS ?v_MOST_INTEGER ?v_SIGNS ?w_SIGNS ?v_ORDERS ?w_ORDERS ?zz_tc_standing ?zz_tc__law_right ?zz_ne__law_right_standing ?zz_hc_standing ?zz_nl_standing ?zz_he_standing ?zz_hc__law_right ?zz_nl__law_right ?zz_he__law_right
    (case a_is_integer => k_is)
    (case l_is_integer => k_is)
    (case c_is_integer => k_is)
    (case k_is_integer => k_is)
    (case a_is_name => k_is)
    (case l_is_name => k_is)
    (case c_is_name => k_is)
    (case k_is_name => k_is)
    (case a_integer_of => k_is)
    (case l_integer_of => k_is)
    (case c_integer_of => k_is)
    (case k_integer_of => k_is)
    (case a_part_of => k_is)
    (case l_part_of => k_is)
    (case c_part_of => k_is)
    (case k_part_of => k_is)
    (case a_place_of => k_is)
    (case l_place_of => k_is)
    (case c_place_of => k_is)
    (case k_place_of => k_is)
    (case a_condition_of => k_is)
    (case l_condition_of => k_is)
    (case c_condition_of => k_is)
    (case k_condition_of => k_is)
    (case a_done_of => k_is)
    (case l_done_of => k_is)
    (case c_done_of => k_is)
    (case k_done_of => k_is)
    (case a_step_of => k_is)
    (case l_step_of => k_is)
    (case c_step_of => k_is)
    (case k_step_of => k_is)
    (case a_check_seats => k_is)
    (case l_check_seats => k_is)
    (case c_check_seats => k_is)
    (case k_check_seats => k_is)
    (case a_names_of => k_is)
    (case l_names_of => k_is)
    (case c_names_of => k_is)
    (case k_names_of => k_is)
    (case a_is_line => k_is)
    (case l_is_line => k_is)
    (case c_is_line => k_is)
    (case k_is_line => k_is)
    (case a_term_of => k_is)
    (case l_term_of => k_is)
    (case c_term_of => k_is)
    (case k_term_of => k_is)
    (case a_check_lines => k_is)
    (case l_check_lines => k_is)
    (case c_check_lines => k_is)
    (case k_check_lines => k_is)
    (case a_read_terms => k_is)
    (case l_read_terms => k_is)
    (case c_read_terms => k_is)
    (case k_read_terms => k_is)
    (case a_read_steps => k_is)
    (case l_read_steps => k_is)
    (case c_read_steps => k_is)
    (case k_read_steps => k_is)
    (case a_text_of => k_is)
    (case l_text_of => k_is)
    (case c_text_of => k_is)
    (case k_text_of => k_is)
    (case a_check_bids => k_is)
    (case l_check_bids => k_is)
    (case c_check_bids => k_is)
    (case k_check_bids => k_is)
    (case a_part_worth => k_is)
    (case l_part_worth => k_is)
    (case c_part_worth => k_is)
    (case k_part_worth => k_is)
    (case a_term_worth => k_is)
    (case l_term_worth => k_is)
    (case c_term_worth => k_is)
    (case k_term_worth => k_is)
    (case a_standing => k_is)
    (case l_standing => k_is)
    (case c_standing => k_is)
    (case k_standing => k_is)
    (case a_sale => k_is)
    (case l_sale => k_is)
    (case c_sale => k_is)
    (case k_sale => k_is)
    (case a_holds => k_is)
    (case l_holds => k_is)
    (case c_holds => k_is)
    (case k_holds => k_is)
    (case a__law_source => k_is)
    (case l__law_source => k_is)
    (case c__law_source => k_is)
    (case k__law_source => k_is)
    (case a__law_take => k_is)
    (case l__law_take => k_is)
    (case c__law_take => k_is)
    (case k__law_take => k_is)
    (case a__law_names => k_is)
    (case l__law_names => k_is)
    (case c__law_names => k_is)
    (case k__law_names => k_is)
    (case a__law_piece => k_is)
    (case l__law_piece => k_is)
    (case c__law_piece => k_is)
    (case k__law_piece => k_is)
    (case a__law_integers => k_is)
    (case l__law_integers => k_is)
    (case c__law_integers => k_is)
    (case k__law_integers => k_is)
    (case a__law_offers => k_is)
    (case l__law_offers => k_is)
    (case c__law_offers => k_is)
    (case k__law_offers => k_is)
    (case a__law_ahead => k_is)
    (case l__law_ahead => k_is)
    (case c__law_ahead => k_is)
    (case k__law_ahead => k_is)
    (case a__law_right => k_is)
    (case l__law_right => k_is)
    (case c__law_right => k_is)
    (case k__law_right => k_is)
    (case a_law => k_is)
    (case l_law => k_is)
    (case c_law => k_is)
    (case k_law => k_is)
    (case aC => k_is)
    (case a_Rule___init__ => k_is)
    (case i_Rule___init__ => k_is)
    (case l_Rule___init__ => k_is)
    (case c_Rule___init__ => k_is)
    (case k_Rule___init__ => k_is)
    (case a_Rule_worths => k_is)
    (case i_Rule_worths => k_is)
    (case l_Rule_worths => k_is)
    (case c_Rule_worths => k_is)
    (case k_Rule_worths => k_is)
    (case a_Rule_outcome => k_is)
    (case i_Rule_outcome => k_is)
    (case l_Rule_outcome => k_is)
    (case c_Rule_outcome => k_is)
    (case k_Rule_outcome => k_is)
    (case a_Rule_seats => k_is)
    (case g_Rule_seats => k_is)
    (case t_Rule_seats => k_is)
    (case r_Rule_seats => k_is)
    (case l_Rule_seats => k_is)
    (case c_Rule_seats => k_is)
    (case k_Rule_seats => k_is)
    (case a_Rule_lines => k_is)
    (case g_Rule_lines => k_is)
    (case t_Rule_lines => k_is)
    (case r_Rule_lines => k_is)
    (case l_Rule_lines => k_is)
    (case c_Rule_lines => k_is)
    (case k_Rule_lines => k_is)
    (case pg => k_is)
    (case hd => k_is)
    (case po => k_is)
    (case sa => k_is)
    (case mk => k_is)
    (case kc => k_is)
    (case n_passed => k_is)
    (case n_terms => k_is)
    (case n_steps => k_is)
    (case n_text => k_is)
    (case z_isinstance => k_is)
    (case z_int => k_is)
    (case z_bool => k_is)
    (case z_str => k_is)
    (case z_tuple => k_is)
    (case z_list => k_is)
    (case z_len => k_is)
    (case z_all => k_is)
    (case z_range => k_is)
    (case z_enumerate => k_is)
    (case z_zip => k_is)
    (case z_dict => k_is)
    (case z_abs => k_is)
    (case z_max => k_is)
    (case z_min => k_is)
    (case z_divmod => k_is)
    (case z_repr => k_is)
    (case z_sorted => k_is)
    (case v_LETTERS => k_is)
    (case v_DIGITS => k_is)
    (case v_LONGEST_NAME => k_is)
    (case v_MOST_SEATS => k_is)
    (case v_MOST_LINES => k_is)
    (case v_MOST_ROWS => k_is)
    (case v_MOST_PARTS => k_is)
    (case v_MOST_INTEGER => k_is)
    (case v_SIGNS => k_is)
    (case w_SIGNS => k_is)
    (case v_ORDERS => k_is)
    (case w_ORDERS => k_is)
    (case zz_tc_standing => rfl)
    (case zz_tc__law_right => rfl)
    (case zz_ne__law_right_standing => decide)
    (case zz_hc_standing => kernel_rfl)
    (case zz_nl_standing => first | k_is | kernel_rfl)
    (case zz_he_standing => exact PySem.W.km_tabs_of Y _ (by simp))
    (case zz_hc__law_right => kernel_rfl)
    (case zz_nl__law_right => first | k_is | kernel_rfl)
    (case zz_he__law_right => exact PySem.W.km_tabs_of Y _ (by simp))
