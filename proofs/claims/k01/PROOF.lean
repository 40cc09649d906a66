import PyProof.Rows.All
import Wide.All
import OpenK.AllK
import Wide.FinOn
import HandS.ForMost
import HandS.WordsExc
import HandS.Lambda
import HandS.Wide
import HandS.TupAny
import HandS.Flow
import HandS.ExcOwn
import HandS.Small
import HandS.IsInst
import HandS.SortInts
import HandS.WordsDict
import HandS.SetFor
import HandS.SetKeys
import HandS.Conv
import HandS.DictComp
import HandS.More
import HandS.TryOnly
import HandS.Deep
import HandS.Rev
import HandS.Star
import PyProof.EnumMake
import PyProof.Draws
import KE.GoesMore
import HandS.Style
import HandS.ExcIs
import PyProof.NeData
import HandS.Strs
import HandS.EndTab
import HandS.List
import HandS.TryMany
import HandS.HeadHook4
import PySem.Challenge.RW_wholecommits_k01_whole_lives_of_disks
set_option Elab.async false
set_option linter.all false
set_option maxRecDepth 100000
set_option maxHeartbeats 4000000
/-! The mirror: values, a store, and how they stand in the heap. -/
namespace Mi
open PySem L2

/-- a value of the mirror: lst is a list that is never changed again, ref a place of the store -/
inductive W where
  | non | bl (b : Bool) | int (i : Int) | str (x : Str) | ty (n : String)
  | tup (xs : List W) | lst (xs : List W) | scr (xs : List W) | ref (i : Nat) | at_ (a : Addr)
  | fn (f : Addr) (ρ0 η0 : List Addr) (H0 : Hp)
/-- what stands in the store -/
inductive Nd where
  | lst (xs : List W) | dk (kvs : List (Key × W)) | ins (c : Nat) (fs : List (Str × W)) | lk (kvs : List (Key × W)) | tb (j : Nat) (q : Str)
abbrev Sto := List Nd
abbrev Ev := List (Option W)
/-- an exception of an own class, by its number -/
inductive Xc where
  | plain (c : Nat)
inductive Rs (α : Type) where
  | ok (a : α) (s : Sto) | ex (x : Xc) (s : Sto) | stuck
def Rs.bind {α β : Type} (r : Rs α) (k : α → Sto → Rs β) : Rs β := match r with
  | .ok a s => k a s
  | .ex x s => .ex x s
  | .stuck => .stuck

/-- not a table of code objects -/
def nt : HO → Bool
  | .tbl _ => false
  | _ => true
/-- what may be hidden -/
def plO : HO → Bool
  | .tbl _ => false
  | .ext _ => false
  | _ => true
/-- nothing but a table stands there -/
def Ab (H : Hp) (a : Addr) : Prop := ∀ o, H a = some o → nt o = false
theorem ab_of {H : Hp} {a : Addr} (h : H a = none) : Ab H a := fun o e => by rw [h] at e; cases e
theorem Ab.not {H : Hp} {a : Addr} {o : HO} (h : Ab H a) (e : H a = some o) (n : nt o = true := by rfl) : False := by
  rw [h o e] at n; cases n
/-- ahead (ρ, H), behind (ρ', H'): more places, what is no place stands as it stood -/
structure Grow (ρ : List Addr) (H : Hp) (ρ' : List Addr) (H' : Hp) : Prop where
  pre : ∃ t, ρ' = ρ ++ t ∧ ∀ a ∈ t, Ab H a
  same' : ∀ a o, a ∉ ρ → H a = some o → nt o = true → H' a = some o
  all : ∀ a o, H a = some o → nt o = true → ∃ o', H' a = some o' ∧ nt o' = true
  frz : ∀ a o u, H a = some (.frz o u) → H' a = some (.frz o u)

theorem Grow.same {ρ ρ' : List Addr} {H H' : Hp} (g : Grow ρ H ρ' H') (a : Addr) (o : HO) (na : a ∉ ρ) (h : H a = some o) (n : nt o = true := by rfl) : H' a = some o := g.same' a o na h n
theorem Grow.refl {ρ : List Addr} {H : Hp} : Grow ρ H ρ H := ⟨⟨[], by simp, by simp⟩, fun _ _ _ h _ => h, fun _ o h n => ⟨o, h, n⟩, fun _ _ _ h => h⟩
theorem Grow.back {ρ ρ' : List Addr} {H H' : Hp} (g : Grow ρ H ρ' H') {a : Addr} (h : Ab H' a) : Ab H a := fun o e => by
  cases q : nt o with
  | false => rfl
  | true =>
    obtain ⟨o', e', n⟩ := g.all a o e q
    exact (h.not e' n).elim
theorem Grow.trans {ρ ρ1 ρ2 : List Addr} {H H1 H2 : Hp} (g : Grow ρ H ρ1 H1) (k : Grow ρ1 H1 ρ2 H2) : Grow ρ H ρ2 H2 := by
  obtain ⟨t, e, ht⟩ := g.pre
  obtain ⟨u, e2, hu⟩ := k.pre
  refine ⟨⟨t ++ u, by rw [e2, e, List.append_assoc], fun a ha => ?_⟩, fun a o na h n => ?_, fun a o h n => ?_, fun a o u h => k.frz a o u (g.frz a o u h)⟩
  · rcases List.mem_append.mp ha with ha | ha
    · exact ht a ha
    · exact g.back (hu a ha)
  · refine k.same a o (fun z => ?_) (g.same a o na h n) n
    rw [e] at z
    rcases List.mem_append.mp z with z | z
    · exact na z
    · exact (ht a z).not h n
  · obtain ⟨o1, h1, n1⟩ := g.all a o h n
    exact k.all a o1 h1 n1
theorem Grow.out {ρ ρ' : List Addr} {H H' : Hp} (g : Grow ρ H ρ' H') {a : Addr} {o : HO} (na : a ∉ ρ) (h : H a = some o) (n : nt o = true := by rfl) : a ∉ ρ' := fun z => by
  obtain ⟨t, e, ht⟩ := g.pre
  rw [e] at z
  rcases List.mem_append.mp z with z | z
  · exact na z
  · exact (ht a z).not h n
/-- what stood still since (ρ0, η0, H0) stands -/
def GH (ρ0 η0 : List Addr) (H0 : Hp) (ρ η : List Addr) (H : Hp) : Prop := (∃ t, ρ = ρ0 ++ t) ∧ ∀ a o, a ∉ ρ0 → a ∉ η0 → H0 a = some o → nt o = true → a ∉ ρ ∧ a ∉ η ∧ H a = some o
theorem GH.refl {ρ η : List Addr} {H : Hp} : GH ρ η H ρ η H := ⟨⟨[], by simp⟩, fun _ _ h1 h2 h3 _ => ⟨h1, h2, h3⟩⟩
theorem GH.trans {ρ0 ρ1 ρ2 η0 η1 η2 : List Addr} {H0 H1 H2 : Hp} (g : GH ρ0 η0 H0 ρ1 η1 H1) (k : GH ρ1 η1 H1 ρ2 η2 H2) : GH ρ0 η0 H0 ρ2 η2 H2 := by
  obtain ⟨⟨t, e⟩, g2⟩ := g
  obtain ⟨⟨u, e2⟩, k2⟩ := k
  refine ⟨⟨t ++ u, by rw [e2, e, List.append_assoc]⟩, fun a o h1 h2 h3 n => ?_⟩
  obtain ⟨x1, x2, x3⟩ := g2 a o h1 h2 h3 n
  exact k2 a o x1 x2 x3 n
theorem GH.of {ρ ρ' η : List Addr} {H H' : Hp} (g : Grow ρ H ρ' H') : GH ρ η H ρ' η H' := by
  obtain ⟨t, e, _⟩ := g.pre
  exact ⟨⟨t, e⟩, fun a o h1 h2 h3 n => ⟨g.out h1 h3 n, h2, g.same a o h1 h3 n⟩⟩
theorem GH.less {ρ η η' : List Addr} {H : Hp} (g : ∀ b ∈ η', b ∈ η) : GH ρ η H ρ η' H := ⟨⟨[], by simp⟩, fun a o h1 h2 h3 _ => ⟨h1, fun z => h2 (g _ z), h3⟩⟩
theorem GH.hide {ρ η : List Addr} {H : Hp} {D : Addr} {o : HO} (n : H D = none ∨ D ∈ η) : GH ρ η H ρ (D :: η) (upd H D o) := ⟨⟨[], by simp⟩, fun a u h1 h2 h3 _ => by
  have ne : a ≠ D := by
    rintro rfl
    rcases n with n | n
    · rw [n] at h3; cases h3
    · exact h2 n
  exact ⟨h1, by simp [ne, h2], by rw [upd_ne ne]; exact h3⟩⟩
theorem GH.shift {ρ η : List Addr} {H : Hp} {D : Addr} : GH ρ (D :: η) H (ρ ++ [D]) η H := ⟨⟨[D], rfl⟩, fun a u h1 h2 h3 _ => by
  simp only [List.mem_cons, not_or] at h2
  exact ⟨by simp [h1, h2.1], h2.2, h3⟩⟩
section
variable (K : PySem.W.Frag)
/-- a tuple, a list that stands still at a -/
def TupAt (ρ η : List Addr) (H : Hp) (a : Addr) (vs : List V) : Prop := (a ∉ ρ ∧ a ∉ η ∧ Rd H a (.tup vs)) ∨
  ∃ (o : Obj) (its : Array Value) (n : Nat), K.lookup a = some o ∧ o.cls = .type "tuple" ∧ o.data = .seq its n ∧ its.size ≤ sizeLine ∧ Vals vs its.toList
def LstAt (ρ η : List Addr) (H : Hp) (a : Addr) (vs : List V) : Prop := (a ∉ ρ ∧ a ∉ η ∧ Rd H a (.lst vs)) ∨
  ∃ (o : Obj) (its : Array Value) (n : Nat), K.lookup a = some o ∧ o.cls = .type "list" ∧ o.dict = none ∧ o.data = .seq its n ∧ its.size ≤ sizeLine ∧ Vals vs its.toList
mutual
def VR (ρ η : List Addr) (H : Hp) : W → V → Prop
  | .non, v => v = .non
  | .bl b, v => v = .bl b
  | .int i, v => v = .int i
  | .str x, v => v = .str x
  | .ty n, v => v = .ty n
  | .at_ a, v => v = .ref a
  | .fn f ρ0 η0 H0, v => v = .ref f ∧ GH ρ0 η0 H0 ρ η H
  | .ref i, v => ∃ a, ρ[i]? = some a ∧ v = .ref a
  | .tup xs, v => ∃ a vs, v = .ref a ∧ TupAt K ρ η H a vs ∧ VRs ρ η H xs vs
  | .lst xs, v => ∃ a vs, v = .ref a ∧ (a ∉ ρ ∧ a ∉ η ∧ H a = some (.lst vs)) ∧ VRs ρ η H xs vs
  | .scr xs, v => ∃ a vs, v = .ref a ∧ LstAt K ρ η H a vs ∧ VRs ρ η H xs vs
def VRs (ρ η : List Addr) (H : Hp) : List W → List V → Prop
  | [], vs => vs = []
  | x :: xs, vs => ∃ v r, vs = v :: r ∧ VR ρ η H x v ∧ VRs ρ η H xs r
end
end

theorem Grow.at {ρ ρ' : List Addr} {H H' : Hp} (g : Grow ρ H ρ' H') {i : Nat} {a : Addr} (h : ρ[i]? = some a) : ρ'[i]? = some a := by
  obtain ⟨t, e, _⟩ := g.pre
  rw [e]
  rw [List.getElem?_append_left (List.getElem?_eq_some_iff.mp h).1]
  exact h
/-- a new object that is no place -/
theorem Grow.new {ρ : List Addr} {H : Hp} {p : Addr} {o : HO} (h : H p = none) : Grow ρ H ρ (upd H p o) :=
  ⟨⟨[], by simp, by simp⟩, fun a u _ e _ => by rw [upd_ne (ne_of_none e h)]; exact e, fun a u e n => ⟨u, by rw [upd_ne (ne_of_none e h)]; exact e, n⟩, fun a u z e => by rw [upd_ne (ne_of_none e h)]; exact e⟩
/-- a new place -/
theorem Grow.node {ρ : List Addr} {H : Hp} {p : Addr} {o : HO} (h : H p = none) : Grow ρ H (ρ ++ [p]) (upd H p o) :=
  ⟨⟨[p], rfl, fun a ha => by rw [List.mem_singleton] at ha; rw [ha]; exact ab_of h⟩, fun a u _ e _ => by rw [upd_ne (ne_of_none e h)]; exact e, fun a u e n => ⟨u, by rw [upd_ne (ne_of_none e h)]; exact e, n⟩, fun a u z e => by rw [upd_ne (ne_of_none e h)]; exact e⟩
/-- what may be written -/
def Open (H : Hp) (p : Addr) : Prop := ∀ o u, H p ≠ some (.frz o u)
/-- a place changes -/
theorem Grow.write {ρ : List Addr} {H : Hp} {p : Addr} {o : HO} (h : p ∈ ρ) (op : Open H p) (n : nt o = true := by rfl) : Grow ρ H ρ (upd H p o) :=
  ⟨⟨[], by simp, by simp⟩, fun a u na e _ => by rw [upd_ne (fun z => na (by rw [z]; exact h))]; exact e, fun a u e k => by
    by_cases z : a = p
    · exact ⟨o, by rw [z, upd_same], n⟩
    · exact ⟨u, by rw [upd_ne z]; exact e, k⟩, fun a u x e => by
    rw [upd_ne (fun z => op u x (by rw [← z]; exact e))]; exact e⟩
theorem open_of {H : Hp} {p : Addr} {x : HO} (e : H p = some x) (n : ∀ o u, x ≠ .frz o u) : Open H p := fun o u z => n o u (Option.some.inj (e.symm.trans z))

theorem rd_some {H : Hp} {a : Addr} {u : HO} (h : Rd H a u) (n : nt u = true := by rfl) : ∃ o, H a = some o ∧ nt o = true := by
  rcases h with h | ⟨o, h⟩
  · exact ⟨_, h, n⟩
  · exact ⟨_, h, rfl⟩
theorem Grow.rd {ρ ρ' : List Addr} {H H' : Hp} (g : Grow ρ H ρ' H') {a : Addr} {u : HO} (na : a ∉ ρ) (h : Rd H a u) (n : nt u = true := by rfl) : Rd H' a u := by
  rcases h with h | ⟨o, h⟩
  · exact .inl (g.same _ _ na h n)
  · exact .inr ⟨o, g.same _ _ na h⟩
section
variable {K : PySem.W.Frag} {ρ ρ' η η' : List Addr} {H H' : Hp}
theorem TupAt.mono {a : Addr} {vs : List V} (g : Grow ρ H ρ' H') (h : TupAt K ρ η H a vs) : TupAt K ρ' η H' a vs := by
  rcases h with ⟨h1, h2, h3⟩ | h
  · obtain ⟨o, e, n⟩ := rd_some h3
    exact .inl ⟨g.out h1 e n, h2, g.rd h1 h3⟩
  · exact .inr h
theorem LstAt.mono {a : Addr} {vs : List V} (g : Grow ρ H ρ' H') (h : LstAt K ρ η H a vs) : LstAt K ρ' η H' a vs := by
  rcases h with ⟨h1, h2, h3⟩ | h
  · obtain ⟨o, e, n⟩ := rd_some h3
    exact .inl ⟨g.out h1 e n, h2, g.rd h1 h3⟩
  · exact .inr h
theorem TupAt.sq {a : Addr} {vs : List V} (h : TupAt K ρ η H a vs) : SqT K H a vs := h.imp (fun h => h.2.2) id
theorem LstAt.sq {a : Addr} {vs : List V} (h : LstAt K ρ η H a vs) : SqL K H a vs := h.imp (fun h => h.2.2) id
mutual
theorem VR.mono (g : Grow ρ H ρ' H') : ∀ {w : W} {v : V}, VR K ρ η H w v → VR K ρ' η H' w v
  | .non, _, h => h
  | .bl _, _, h => h
  | .int _, _, h => h
  | .str _, _, h => h
  | .ty _, _, h => h
  | .at_ _, _, h => h
  | .fn _ _ _ _, _, h => ⟨h.1, h.2.trans (GH.of g)⟩
  | .ref i, v, h => by
    simp only [VR] at h ⊢
    obtain ⟨a, e, r⟩ := h
    exact ⟨a, g.at e, r⟩
  | .tup xs, v, h => by
    simp only [VR] at h ⊢
    obtain ⟨a, vs, e, t, r⟩ := h
    exact ⟨a, vs, e, t.mono g, VRs.mono g r⟩
  | .lst xs, v, h => by
    simp only [VR] at h ⊢
    obtain ⟨a, vs, e, ⟨t1, t2, t3⟩, r⟩ := h
    exact ⟨a, vs, e, ⟨g.out t1 t3, t2, g.same _ _ t1 t3⟩, VRs.mono g r⟩
  | .scr xs, v, h => by
    simp only [VR] at h ⊢
    obtain ⟨a, vs, e, t, r⟩ := h
    exact ⟨a, vs, e, t.mono g, VRs.mono g r⟩
theorem VRs.mono (g : Grow ρ H ρ' H') : ∀ {ws : List W} {vs : List V}, VRs K ρ η H ws vs → VRs K ρ' η H' ws vs
  | [], _, h => by simpa only [VRs] using h
  | x :: xs, vs, h => by
    simp only [VRs] at h ⊢
    obtain ⟨v, r, e, h1, h2⟩ := h
    exact ⟨v, r, e, VR.mono g h1, VRs.mono g h2⟩
end
/-- fewer hidden ones -/
theorem TupAt.less {a : Addr} {vs : List V} (g : ∀ b ∈ η', b ∈ η) (h : TupAt K ρ η H a vs) : TupAt K ρ η' H a vs := h.imp (fun h => ⟨h.1, fun z => h.2.1 (g _ z), h.2.2⟩) id
theorem LstAt.less {a : Addr} {vs : List V} (g : ∀ b ∈ η', b ∈ η) (h : LstAt K ρ η H a vs) : LstAt K ρ η' H a vs := h.imp (fun h => ⟨h.1, fun z => h.2.1 (g _ z), h.2.2⟩) id
mutual
theorem VR.less (g : ∀ b ∈ η', b ∈ η) : ∀ {w : W} {v : V}, VR K ρ η H w v → VR K ρ η' H w v
  | .non, _, h => h
  | .bl _, _, h => h
  | .int _, _, h => h
  | .str _, _, h => h
  | .ty _, _, h => h
  | .at_ _, _, h => h
  | .fn _ _ _ _, _, h => ⟨h.1, h.2.trans (GH.less g)⟩
  | .ref i, v, h => by
    simp only [VR] at h ⊢
    exact h
  | .tup xs, v, h => by
    simp only [VR] at h ⊢
    obtain ⟨a, vs, e, t, r⟩ := h
    exact ⟨a, vs, e, t.less g, VRs.less g r⟩
  | .lst xs, v, h => by
    simp only [VR] at h ⊢
    obtain ⟨a, vs, e, ⟨t1, t2, t3⟩, r⟩ := h
    exact ⟨a, vs, e, ⟨t1, fun z => t2 (g _ z), t3⟩, VRs.less g r⟩
  | .scr xs, v, h => by
    simp only [VR] at h ⊢
    obtain ⟨a, vs, e, t, r⟩ := h
    exact ⟨a, vs, e, t.less g, VRs.less g r⟩
theorem VRs.less (g : ∀ b ∈ η', b ∈ η) : ∀ {ws : List W} {vs : List V}, VRs K ρ η H ws vs → VRs K ρ η' H ws vs
  | [], _, h => by simpa only [VRs] using h
  | x :: xs, vs, h => by
    simp only [VRs] at h ⊢
    obtain ⟨v, r, e, h1, h2⟩ := h
    exact ⟨v, r, e, VR.less g h1, VRs.less g h2⟩
end
/-- a new hidden object D, or one that changes -/
theorem TupAt.hide {a D : Addr} {o : HO} {vs : List V} (n : H D = none ∨ D ∈ η) (h : TupAt K ρ η H a vs) : TupAt K ρ (D :: η) (upd H D o) a vs := by
  rcases h with ⟨h1, h2, h3⟩ | h
  · have ne : a ≠ D := by
      rintro rfl
      rcases n with n | n
      · obtain ⟨o, e, _⟩ := rd_some h3
        rw [n] at e; cases e
      · exact h2 n
    refine .inl ⟨h1, by simp [ne, h2], ?_⟩
    rcases h3 with e | ⟨o, e⟩
    · exact .inl (by rw [upd_ne ne]; exact e)
    · exact .inr ⟨o, by rw [upd_ne ne]; exact e⟩
  · exact .inr h
theorem LstAt.hide {a D : Addr} {o : HO} {vs : List V} (n : H D = none ∨ D ∈ η) (h : LstAt K ρ η H a vs) : LstAt K ρ (D :: η) (upd H D o) a vs := by
  rcases h with ⟨h1, h2, h3⟩ | h
  · have ne : a ≠ D := by
      rintro rfl
      rcases n with n | n
      · obtain ⟨o, e, _⟩ := rd_some h3
        rw [n] at e; cases e
      · exact h2 n
    refine .inl ⟨h1, by simp [ne, h2], ?_⟩
    rcases h3 with e | ⟨o, e⟩
    · exact .inl (by rw [upd_ne ne]; exact e)
    · exact .inr ⟨o, by rw [upd_ne ne]; exact e⟩
  · exact .inr h
mutual
theorem VR.hide {D : Addr} {o : HO} (n : H D = none ∨ D ∈ η) : ∀ {w : W} {v : V}, VR K ρ η H w v → VR K ρ (D :: η) (upd H D o) w v
  | .non, _, h => h
  | .bl _, _, h => h
  | .int _, _, h => h
  | .str _, _, h => h
  | .ty _, _, h => h
  | .at_ _, _, h => h
  | .fn _ _ _ _, _, h => ⟨h.1, h.2.trans (GH.hide n)⟩
  | .ref i, v, h => by
    simp only [VR] at h ⊢
    exact h
  | .tup xs, v, h => by
    simp only [VR] at h ⊢
    obtain ⟨a, vs, e, t, r⟩ := h
    exact ⟨a, vs, e, t.hide n, VRs.hide n r⟩
  | .lst xs, v, h => by
    simp only [VR] at h ⊢
    obtain ⟨a, vs, e, ⟨t1, t2, t3⟩, r⟩ := h
    have ne : a ≠ D := by
      rintro rfl
      rcases n with n | n
      · rw [n] at t3; cases t3
      · exact t2 n
    exact ⟨a, vs, e, ⟨t1, by simp [ne, t2], by rw [upd_ne ne]; exact t3⟩, VRs.hide n r⟩
  | .scr xs, v, h => by
    simp only [VR] at h ⊢
    obtain ⟨a, vs, e, t, r⟩ := h
    exact ⟨a, vs, e, t.hide n, VRs.hide n r⟩
theorem VRs.hide {D : Addr} {o : HO} (n : H D = none ∨ D ∈ η) : ∀ {ws : List W} {vs : List V}, VRs K ρ η H ws vs → VRs K ρ (D :: η) (upd H D o) ws vs
  | [], _, h => by simpa only [VRs] using h
  | x :: xs, vs, h => by
    simp only [VRs] at h ⊢
    obtain ⟨v, r, e, h1, h2⟩ := h
    exact ⟨v, r, e, VR.hide n h1, VRs.hide n h2⟩
end
theorem VRs.append : ∀ {xs ys : List W} {vs us : List V}, VRs K ρ η H xs vs → VRs K ρ η H ys us → VRs K ρ η H (xs ++ ys) (vs ++ us)
  | [], _, _, _, h, k => by
    simp only [VRs] at h
    subst h
    exact k
  | x :: xs, _, _, _, h, k => by
    simp only [VRs, List.cons_append] at h ⊢
    obtain ⟨v, r, e, h1, h2⟩ := h
    exact ⟨v, r ++ _, by rw [e]; rfl, h1, h2.append k⟩
theorem VRs.len : ∀ {xs : List W} {vs : List V}, VRs K ρ η H xs vs → vs.length = xs.length
  | [], _, h => by
    simp only [VRs] at h
    subst h
    rfl
  | x :: xs, _, h => by
    simp only [VRs] at h
    obtain ⟨v, r, e, h1, h2⟩ := h
    rw [e, List.length_cons, List.length_cons, h2.len]
theorem VRs.get : ∀ {xs : List W} {vs : List V} {i : Nat} {x : W}, VRs K ρ η H xs vs → xs[i]? = some x → ∃ v, vs[i]? = some v ∧ VR K ρ η H x v
  | [], _, _, _, _, e => by simp at e
  | x :: xs, _, 0, _, h, e => by
    simp only [VRs] at h
    obtain ⟨v, r, e', h1, h2⟩ := h
    simp at e
    subst e
    exact ⟨v, by rw [e']; rfl, h1⟩
  | x :: xs, _, i + 1, y, h, e => by
    simp only [VRs] at h
    obtain ⟨v, r, e', h1, h2⟩ := h
    obtain ⟨u, q, k⟩ := h2.get (i := i) (x := y) (by simpa using e)
    exact ⟨u, by rw [e']; simpa using q, k⟩
theorem VRs.of_get : ∀ {xs : List W} {vs : List V}, vs.length = xs.length → (∀ (i : Nat) (x : W) (v : V), xs[i]? = some x → vs[i]? = some v → VR K ρ η H x v) → VRs K ρ η H xs vs
  | [], vs, l, _ => by
    simp only [VRs]
    exact List.eq_nil_of_length_eq_zero l
  | x :: xs, [], l, _ => by simp at l
  | x :: xs, v :: vs, l, h => by
    simp only [VRs]
    exact ⟨v, vs, rfl, h 0 x v rfl rfl, VRs.of_get (by simpa using l) fun i y u a b => h (i + 1) y u (by simpa using a) (by simpa using b)⟩
theorem VRs.nil : VRs K ρ η H [] [] := by simp only [VRs]
theorem VRs.cons {x : W} {xs : List W} {v : V} {vs : List V} (a : VR K ρ η H x v) (b : VRs K ρ η H xs vs) : VRs K ρ η H (x :: xs) (v :: vs) := by
  simp only [VRs]
  exact ⟨v, vs, rfl, a, b⟩
theorem VRs.set {x : W} {v : V} (a : VR K ρ η H x v) {xs : List W} {vs : List V} (i : Nat) (h : VRs K ρ η H xs vs) : VRs K ρ η H (xs.set i x) (vs.set i v) := by
  refine .of_get (by simp [h.len]) fun j y u e f => ?_
  rw [List.getElem?_set] at e f
  rw [h.len] at f
  split at e
  · rename_i q
    subst q
    split at e
    · rename_i q
      rw [if_pos q] at f
      simp at e f
      subst e; subst f
      exact a
    · simp at e
  · rename_i q
    rw [if_neg q] at f
    obtain ⟨z, h1, h2⟩ := h.get e
    rw [f] at h1
    cases h1
    exact h2
theorem VRs.take (n : Nat) {xs : List W} {vs : List V} (h : VRs K ρ η H xs vs) : VRs K ρ η H (xs.take n) (vs.take n) := by
  refine .of_get (by simp [h.len]) fun j y u e f => ?_
  rw [List.getElem?_take] at e f
  split at e
  · rename_i q
    rw [if_pos q] at f
    obtain ⟨z, h1, h2⟩ := h.get e
    rw [f] at h1
    cases h1
    exact h2
  · simp at e
theorem VRs.drop (n : Nat) {xs : List W} {vs : List V} (h : VRs K ρ η H xs vs) : VRs K ρ η H (xs.drop n) (vs.drop n) := by
  refine .of_get (by simp [h.len]) fun j y u e f => ?_
  rw [List.getElem?_drop] at e f
  obtain ⟨z, h1, h2⟩ := h.get e
  rw [f] at h1
  cases h1
  exact h2
theorem VRs.eraseIdx (n : Nat) {xs : List W} {vs : List V} (h : VRs K ρ η H xs vs) : VRs K ρ η H (xs.eraseIdx n) (vs.eraseIdx n) := by
  rw [List.eraseIdx_eq_take_drop_succ, List.eraseIdx_eq_take_drop_succ]
  exact (h.take n).append (h.drop (n + 1))
end
end Mi
namespace Mi
open PySem L2

section
variable (K : PySem.W.Frag) (T : Nat → Addr)
/-- a def's table of code objects, at a -/
def TbR (T : Nat → Addr) (ρ η : List Addr) (H : Hp) (a : Addr) (j : Nat) (q : Str) : Prop := a = T (1000 + j) ∧ ∃ ps : Array Value, H a = some (.tbl ps) ∧ TriplesOk ps.toList ∧ ∀ (pos : Pos) (cv : Value), codeAmong pos ps.toList = some cv → ∃ c : Addr, cv = .ref c ∧ c ∉ ρ ∧ c ∉ η ∧ H c = some (LamX.CodeO c q)
/-- a store's object as it stands at a -/
def NR (ρ η : List Addr) (H : Hp) (a : Addr) : Nd → Prop
  | .lst xs => ∃ vs, H a = some (.lst vs) ∧ VRs K ρ η H xs vs
  | .dk kvs => ∃ kv : List (Key × V), H a = some (.dK kv) ∧ kv.map (·.1) = kvs.map (·.1) ∧ VRs K ρ η H (kvs.map (·.2)) (kv.map (·.2))
  | .lk kvs => ∃ (od : Obj) (kv : List (Key × V)), H a = some (.frz od (.dK kv)) ∧ kv.map (·.1) = kvs.map (·.1) ∧ VRs K ρ η H (kvs.map (·.2)) (kv.map (·.2))
  | .ins c fs => ∃ (dx : Addr) (fv : List (Str × V)), H a = some (.ins (T c) dx fv) ∧ fv.map (·.1) = fs.map (·.1) ∧ VRs K ρ η H (fs.map (·.2)) (fv.map (·.2))
  | .tb j q => TbR T ρ η H a j q
structure SR (ρ η : List Addr) (st : Sto) (H : Hp) : Prop where
  nd : ρ.Nodup
  len : ρ.length = st.length
  hid : ∀ a ∈ η, a ∉ ρ
  has : ∀ a ∈ η, ∃ o, H a = some o ∧ plO o = true
  at_ : ∀ (i : Nat) (n : Nd) (a : Addr), st[i]? = some n → ρ[i]? = some a → NR K T ρ η H a n
/-- the names' values -/
def ER (ρ η : List Addr) (H : Hp) (env : Ev) (σ : St) : Prop := σ.length = env.length ∧ ∀ (i : Nat) (w : W), env[i]? = some (some w) → ∃ v, σ[i]? = some (some v) ∧ VR K ρ η H w v
def XR : Xc → Value → Option Addr → Prop
  | .plain n, c, d => c = .ref (T n) ∧ d = none
/-- what follows upon an answer -/
def After {α β : Type} (η : List Addr) (R : List Addr → Hp → α → β → Prop) (ρ : List Addr) (H : Hp) (r : Rs α) (Q : β → Hp → Prop) (E : Value → Option Addr → Hp → Prop) : Prop :=
  match r with
  | .ok w st => ∀ ρ' H' v, Grow ρ H ρ' H' → SR K T ρ' η st H' → R ρ' H' w v → Q v H'
  | .ex x st => ∀ ρ' H' c d, Grow ρ H ρ' H' → SR K T ρ' η st H' → XR T x c d → E c d H'
  | .stuck => False
end
section
variable {K : PySem.W.Frag} {T : Nat → Addr} {ρ ρ' η : List Addr} {H H' : Hp} {st : Sto}
theorem TbR.mono {a : Addr} {j : Nat} {q : Str} (g : Grow ρ H ρ' H') (k : H' a = H a) (h : TbR T ρ η H a j q) : TbR T ρ' η H' a j q := by
  obtain ⟨e, ps, h1, h2, h3⟩ := h
  refine ⟨e, ps, k.trans h1, h2, fun pos cv z => ?_⟩
  obtain ⟨c, c1, c2, c3, c4⟩ := h3 pos cv z
  exact ⟨c, c1, g.out c2 c4, c3, g.same c _ c2 c4⟩
theorem NR.mono {a : Addr} {n : Nd} (g : Grow ρ H ρ' H') (k : H' a = H a) (h : NR K T ρ η H a n) : NR K T ρ' η H' a n := by
  cases n with
  | lst xs => obtain ⟨vs, e, r⟩ := h; exact ⟨vs, k.trans e, r.mono g⟩
  | dk kvs => obtain ⟨kv, e, q, r⟩ := h; exact ⟨kv, k.trans e, q, r.mono g⟩
  | lk kvs => obtain ⟨od, kv, e, q, r⟩ := h; exact ⟨od, kv, k.trans e, q, r.mono g⟩
  | ins c fs => obtain ⟨dx, fv, e, q, r⟩ := h; exact ⟨dx, fv, k.trans e, q, r.mono g⟩
  | tb p q => exact TbR.mono g k h
theorem ER.mono {env : Ev} {σ : St} (g : Grow ρ H ρ' H') (h : ER K ρ η H env σ) : ER K ρ' η H' env σ := ⟨h.1, fun i w e => by
  obtain ⟨v, q, r⟩ := h.2 i w e
  exact ⟨v, q, r.mono g⟩⟩
theorem ER.set {env : Ev} {σ : St} {i : Nat} {w : W} {v : V} (h : ER K ρ η H env σ) (r : VR K ρ η H w v) : ER K ρ η H (env.set i (some w)) (σ.set i (some v)) := ⟨by simp [h.1], fun j u e => by
  rw [List.getElem?_set] at e ⊢
  split at e
  · rename_i q
    rw [if_pos q]
    split at e
    · rename_i q2
      rw [h.1, if_pos q2]
      cases e
      exact ⟨v, rfl, r⟩
    · cases e
  · rename_i q
    rw [if_neg q]
    exact h.2 j u e⟩
/-- a new object that is no place -/
theorem SR.new {p : Addr} {o : HO} (h : SR K T ρ η st H) (n : H p = none) (np : ∀ (i : Nat) (a : Addr), ρ[i]? = some a → a ≠ p) : SR K T ρ η st (upd H p o) :=
  ⟨h.nd, h.len, h.hid, fun a ha => by
    obtain ⟨u, e, pl⟩ := h.has a ha
    exact ⟨u, by rw [upd_ne (ne_of_none e n)]; exact e, pl⟩, fun i nd a e q => (h.at_ i nd a e q).mono (Grow.new n) (upd_ne (np i a q))⟩
theorem SR.there {i : Nat} {a : Addr} (h : SR K T ρ η st H) (q : ρ[i]? = some a) : ∃ o, H a = some o := by
  have hi : i < st.length := by rw [← h.len]; exact (List.getElem?_eq_some_iff.mp q).1
  have k := h.at_ i _ a (List.getElem?_eq_getElem hi) q
  cases e : st[i] with
  | lst xs => rw [e] at k; obtain ⟨vs, z, _⟩ := k; exact ⟨_, z⟩
  | dk xs => rw [e] at k; obtain ⟨vs, z, _⟩ := k; exact ⟨_, z⟩
  | lk xs => rw [e] at k; obtain ⟨od, vs, z, _⟩ := k; exact ⟨_, z⟩
  | ins c xs => rw [e] at k; obtain ⟨dx, vs, z, _⟩ := k; exact ⟨_, z⟩
  | tb p q => rw [e] at k; obtain ⟨_, ps, z, _⟩ := k; exact ⟨_, z⟩
theorem SR.new' {p : Addr} {o : HO} (h : SR K T ρ η st H) (n : H p = none) : SR K T ρ η st (upd H p o) := h.new n fun i a q z => by
  obtain ⟨u, e⟩ := h.there q
  rw [z, n] at e; cases e
theorem SR.fresh {p : Addr} (h : SR K T ρ η st H) (n : H p = none) : p ∉ ρ := fun z => by
  obtain ⟨i, hi⟩ := List.getElem?_of_mem z
  obtain ⟨u, e⟩ := h.there hi
  rw [n] at e; cases e
theorem SR.freshH {p : Addr} (h : SR K T ρ η st H) (n : H p = none) : p ∉ η := fun z => by
  obtain ⟨u, e, _⟩ := h.has p z
  rw [n] at e; cases e
/-- a new place -/
theorem SR.node {p : Addr} {o : HO} {nd : Nd} (h : SR K T ρ η st H) (n : H p = none) (k : NR K T (ρ ++ [p]) η (upd H p o) p nd) : SR K T (ρ ++ [p]) η (st ++ [nd]) (upd H p o) := by
  refine ⟨?_, by simp [h.len], fun a ha z => ?_, fun a ha => ?_, fun i m a e q => ?_⟩
  · rw [List.nodup_append]
    exact ⟨h.nd, by simp, fun a ha b hb z => by
      rw [List.mem_singleton] at hb
      subst hb; subst z
      exact h.fresh n ha⟩
  · rcases List.mem_append.mp z with z | z
    · exact h.hid a ha z
    · rw [List.mem_singleton] at z
      subst z
      exact h.freshH n ha
  · obtain ⟨u, e, pl⟩ := h.has a ha
    exact ⟨u, by rw [upd_ne (ne_of_none e n)]; exact e, pl⟩
  · by_cases hi : i < st.length
    · rw [List.getElem?_append_left hi] at e
      rw [List.getElem?_append_left (by rw [h.len]; exact hi)] at q
      obtain ⟨u, z⟩ := h.there q
      exact (h.at_ i m a e q).mono (Grow.node n) (upd_ne (ne_of_none z n))
    · have l1 := (List.getElem?_eq_some_iff.mp e).1
      have hi2 : i = st.length := by
        rw [List.length_append, List.length_singleton] at l1
        omega
      subst hi2
      rw [List.getElem?_append_right (Nat.le_refl _)] at e
      rw [List.getElem?_append_right (by rw [h.len]; exact Nat.le_refl _)] at q
      simp at e
      simp [h.len] at q
      subst e; subst q
      exact k
/-- a place changes -/
theorem SR.write {p : Addr} {o : HO} {nd : Nd} {i : Nat} (h : SR K T ρ η st H) (op : Open H p) (q : ρ[i]? = some p) (k : NR K T ρ η (upd H p o) p nd) (nn : nt o = true := by rfl) : SR K T ρ η (st.set i nd) (upd H p o) := by
  have hp : p ∈ ρ := List.mem_of_getElem? q
  refine ⟨h.nd, by simp [h.len], h.hid, fun a ha => ?_, fun j m a e r => ?_⟩
  · obtain ⟨u, e, pl⟩ := h.has a ha
    exact ⟨u, by rw [upd_ne (fun z => h.hid a ha (by rw [z]; exact hp))]; exact e, pl⟩
  · rw [List.getElem?_set] at e
    split at e
    · rename_i z
      subst z
      rw [q] at r
      cases r
      split at e
      · cases e
        exact k
      · cases e
    · rename_i z
      have ne : a ≠ p := by
        rintro rfl
        have l1 := (List.getElem?_eq_some_iff.mp q)
        have l2 := (List.getElem?_eq_some_iff.mp r)
        obtain ⟨b1, c1⟩ := l1
        obtain ⟨b2, c2⟩ := l2
        exact z ((List.getElem_inj h.nd).mp (c1.trans c2.symm))
      exact (h.at_ j m a e r).mono (Grow.write hp op nn) (upd_ne ne)

theorem After.grow {α β : Type} {R : List Addr → Hp → α → β → Prop} {r : Rs α} {Q : β → Hp → Prop} {E : Value → Option Addr → Hp → Prop} (g : Grow ρ H ρ' H') (h : After K T η R ρ H r Q E) : After K T η R ρ' H' r Q E := by
  cases r with
  | ok w s => exact fun ρ2 H2 v g2 => h ρ2 H2 v (g.trans g2)
  | ex x s => exact fun ρ2 H2 c d g2 => h ρ2 H2 c d (g.trans g2)
  | stuck => exact h
theorem After.bind {α β γ δ : Type} {R : List Addr → Hp → α → β → Prop} {R' : List Addr → Hp → γ → δ → Prop} {r : Rs α} {k : α → Sto → Rs γ} {Q : δ → Hp → Prop} {Q1 : β → Hp → Prop} {E : Value → Option Addr → Hp → Prop} (h : After K T η R' ρ H (r.bind k) Q E)
    (f : ∀ w st1 ρ1 H1 v, Grow ρ H ρ1 H1 → SR K T ρ1 η st1 H1 → R ρ1 H1 w v → After K T η R' ρ1 H1 (k w st1) Q E → Q1 v H1) : After K T η R ρ H r Q1 E := by
  cases r with
  | ok w s => exact fun ρ1 H1 v g s1 r1 => f w s ρ1 H1 v g s1 r1 (After.grow g h)
  | ex x s => exact h
  | stuck => exact h
theorem After.ok {α β : Type} {R : List Addr → Hp → α → β → Prop} {w : α} {Q : β → Hp → Prop} {E : Value → Option Addr → Hp → Prop} {v : β} (h : After K T η R ρ H (.ok w st) Q E) (s : SR K T ρ η st H) (r : R ρ H w v) : Q v H := h ρ H v Grow.refl s r
end

/-! ### what an expression does -/
abbrev M (α : Type) := Ev → Sto → Rs α
def tS (X : Cx) (e : Expr) : TE := fun σ H Q => ∃ t, PE X e t ∧ t σ H Q
theorem pe_S {X : Cx} {e : Expr} : PE X e (tS X e) := ⟨fun pins s σ H Q I ⟨_, h, q⟩ => h.run pins s σ H Q I q⟩
def tST (X : Cx) (e : Expr) : TT := fun σ H Q => ∃ t, PT X e t ∧ t σ H Q
theorem pt_S {X : Cx} {e : Expr} : PT X e (tST X e) := ⟨fun pins s σ H Q I ⟨_, h, q⟩ => h.run pins s σ H Q I q⟩
def tSW (X : Cx) (e : Expr) : TT := fun σ H Q => ∃ t, PW X e t ∧ t σ H Q
theorem pw_S {X : Cx} {e : Expr} : PW X e (tSW X e) := ⟨fun wh pins s σ H Q I ⟨_, h, q⟩ => h.run wh pins s σ H Q I q⟩
def tSA (X : Cx) (es : List Expr) : TA := fun σ H Q => ∃ t, PA X es t ∧ t σ H Q
theorem pa_S {X : Cx} {es : List Expr} : PA X es (tSA X es) := ⟨fun p pins s σ H Q I ⟨_, h, q⟩ => h.run p pins s σ H Q I q⟩
def tSS (X : Cx) (st : Stmt) : TS := fun D σ H => ∃ t, PS X st t ∧ t D σ H
theorem ps_S {X : Cx} {st : Stmt} : PS X st (tSS X st) := ⟨fun pins s σ H D I ⟨_, h, q⟩ => h.run pins s σ H D I q⟩
def tSSs (X : Cx) (st : List Stmt) : TS := fun D σ H => ∃ t, PSs X st t ∧ t D σ H
theorem pss_S {X : Cx} {st : List Stmt} : PSs X st (tSSs X st) := ⟨fun pins s σ H D I ⟨_, h, q⟩ => h.run pins s σ H D I q⟩

abbrev WX' := Value → Option Addr → St → Hp → Prop
section
variable (X : Cx) (T : Nat → Addr) (Wx : WX')
def SE (e : Expr) (m : M W) : Prop := ∀ ρ η st env σ H Q, SR X.K T ρ η st H → ER X.K ρ η H env σ → After X.K T η (fun ρ H => VR X.K ρ η H) ρ H (m env st) Q (fun c d H' => Wx c d σ H') → tS X e σ H Q
def STt (e : Expr) (m : M Bool) : Prop := ∀ ρ η st env σ H Q, SR X.K T ρ η st H → ER X.K ρ η H env σ → After X.K T η (fun _ _ => Eq) ρ H (m env st) Q (fun c d H' => Wx c d σ H') → tST X e σ H Q
def SWt (e : Expr) (m : M Bool) : Prop := ∀ ρ η st env σ H Q, SR X.K T ρ η st H → ER X.K ρ η H env σ → After X.K T η (fun _ _ => Eq) ρ H (m env st) Q (fun c d H' => Wx c d σ H') → tSW X e σ H Q
def SA (es : List Expr) (m : M (List W)) : Prop := ∀ ρ η st env σ H Q, SR X.K T ρ η st H → ER X.K ρ η H env σ → After X.K T η (fun ρ H => VRs X.K ρ η H) ρ H (m env st) Q (fun c d H' => Wx c d σ H') → tSA X es σ H Q
end
end Mi
namespace Mi
open PySem L2

/-! ### reading lists and tuples -/
def seqL (st : Sto) : W → Option (List W)
  | .lst xs => some xs
  | .scr xs => some xs
  | .ref i => match st[i]? with
    | some (.lst xs) => some xs
    | _ => none
  | _ => none
def trkL (st : Sto) : W → Option (List W)
  | .lst xs => some xs
  | .ref i => match st[i]? with
    | some (.lst xs) => some xs
    | _ => none
  | _ => none
def tupL : W → Option (List W)
  | .tup xs => some xs
  | _ => none
section
variable {K : PySem.W.Frag} {T : Nat → Addr} {ρ ρ' η : List Addr} {H H' : Hp} {st : Sto}
theorem node_at {i : Nat} {v : V} {n : Nd} (s : SR K T ρ η st H) (h : VR K ρ η H (.ref i) v) (e : st[i]? = some n) : ∃ a, v = .ref a ∧ ρ[i]? = some a ∧ NR K T ρ η H a n := by
  simp only [VR] at h
  obtain ⟨a, h1, h2⟩ := h
  exact ⟨a, h2, h1, s.at_ i n a e h1⟩
theorem trk_ok {w : W} {v : V} {xs : List W} (s : SR K T ρ η st H) (h : VR K ρ η H w v) (e : trkL st w = some xs) : ∃ a vs, v = .ref a ∧ H a = some (.lst vs) ∧ VRs K ρ η H xs vs := by
  cases w with
  | lst ys =>
    simp only [trkL, Option.some.injEq] at e
    subst e
    simp only [VR] at h
    obtain ⟨a, vs, h1, h2, h3⟩ := h
    exact ⟨a, vs, h1, h2.2.2, h3⟩
  | ref i =>
    simp only [trkL] at e
    split at e
    · rename_i ys q
      cases e
      obtain ⟨a, h1, _, h2⟩ := node_at s h q
      obtain ⟨vs, h3, h4⟩ := h2
      exact ⟨a, vs, h1, h3, h4⟩
    · cases e
  | _ => simp [trkL] at e
theorem seq_ok {w : W} {v : V} {xs : List W} (s : SR K T ρ η st H) (h : VR K ρ η H w v) (e : seqL st w = some xs) : ∃ a vs, v = .ref a ∧ SqL K H a vs ∧ VRs K ρ η H xs vs := by
  cases w with
  | lst ys =>
    obtain ⟨a, vs, h1, h2, h3⟩ := trk_ok s h (show trkL st (.lst ys) = some xs from e)
    exact ⟨a, vs, h1, SqL.of h2, h3⟩
  | ref i =>
    obtain ⟨a, vs, h1, h2, h3⟩ := trk_ok s h (show trkL st (.ref i) = some xs from e)
    exact ⟨a, vs, h1, SqL.of h2, h3⟩
  | scr ys =>
    simp only [seqL, Option.some.injEq] at e
    subst e
    simp only [VR] at h
    obtain ⟨a, vs, h1, h2, h3⟩ := h
    exact ⟨a, vs, h1, h2.sq, h3⟩
  | _ => simp [seqL] at e
theorem tup_ok {w : W} {v : V} {xs : List W} (h : VR K ρ η H w v) (e : tupL w = some xs) : ∃ a vs, v = .ref a ∧ SqT K H a vs ∧ VRs K ρ η H xs vs := by
  cases w with
  | tup ys =>
    simp only [tupL, Option.some.injEq] at e
    subst e
    simp only [VR] at h
    obtain ⟨a, vs, h1, h2, h3⟩ := h
    exact ⟨a, vs, h1, h2.sq, h3⟩
  | _ => simp [tupL] at e
end

/-! ### new lists and tuples -/
def newL (fz : Bool) (xs : List W) (st : Sto) : Rs W := if fz then .ok (.lst xs) st else .ok (.ref st.length) (st ++ [.lst xs])
section
variable {K : PySem.W.Frag} {T : Nat → Addr} {ρ ρ' η : List Addr} {H H' : Hp} {st : Sto} {Q : V → Hp → Prop} {E : Value → Option Addr → Hp → Prop}
theorem newL_ok {fz : Bool} {xs : List W} {vs : List V} {p : Addr} (h : After K T η (fun ρ H => VR K ρ η H) ρ H (newL fz xs st) Q E) (s : SR K T ρ η st H) (r : VRs K ρ η H xs vs) (n : H p = none) : Q (.ref p) (upd H p (.lst vs)) := by
  unfold newL at h
  cases fz with
  | true =>
    refine h ρ _ _ (Grow.new n) (s.new' n) ?_
    simp only [VR]
    exact ⟨p, vs, rfl, ⟨s.fresh n, s.freshH n, upd_same⟩, r.mono (Grow.new n)⟩
  | false =>
    refine h (ρ ++ [p]) _ _ (Grow.node n) (s.node n ⟨vs, upd_same, r.mono (Grow.node n)⟩) ?_
    simp only [VR]
    exact ⟨p, by rw [← s.len, List.getElem?_append_right (Nat.le_refl _)]; simp, rfl⟩
theorem newT_ok {xs : List W} {vs : List V} {p : Addr} (h : After K T η (fun ρ H => VR K ρ η H) ρ H (.ok (.tup xs) st) Q E) (s : SR K T ρ η st H) (r : VRs K ρ η H xs vs) (n : H p = none) : Q (.ref p) (upd H p (.tup vs)) := by
  refine h ρ _ _ (Grow.new n) (s.new' n) ?_
  simp only [VR]
  exact ⟨p, vs, rfl, .inl ⟨s.fresh n, s.freshH n, .inl upd_same⟩, r.mono (Grow.new n)⟩
end

/-! ### operators by values -/
abbrev F2 := W → W → Sto → Rs W
def OkR (K : PySem.W.Frag) (T : Nat → Addr) (f : F2) (r : R2) : Prop := ∀ ρ η st H a b x y Q E, SR K T ρ η st H → VR K ρ η H a x → VR K ρ η H b y → After K T η (fun ρ H => VR K ρ η H) ρ H (f a b st) Q E → r x y H Q
def rOr (r r' : R2) : R2 := fun x y H Q => r x y H Q ∨ r' x y H Q
theorem opr_or {X : Cx} {f : Value → Value → Sem Value} {r r' : R2} (h : OpR X f r) (h' : OpR X f r') : OpR X f (rOr r r') := fun pins s σ H x y v u Q I a b q => by
  rcases q with q | q
  · exact h pins s σ H x y v u Q I a b q
  · exact h' pins s σ H x y v u Q I a b q

def wAdd (fz : Bool) : F2 := fun a b st => match a, b with
  | .int i, .int j => .ok (.int (i + j)) st
  | .str x, .str y => if x.length + y.length ≤ sizeLine then .ok (.str (x ++ y)) st else .stuck
  | .tup xs, .tup ys => if xs.length + ys.length ≤ sizeLine then .ok (.tup (xs ++ ys)) st else .stuck
  | a, b => match trkL st a, trkL st b with
    | some xs, some ys => if xs.length + ys.length ≤ sizeLine then newL fz (xs ++ ys) st else .stuck
    | _, _ => .stuck
def wSub : F2 := fun a b st => match a, b with
  | .int i, .int j => .ok (.int (i - j)) st
  | _, _ => .stuck
def small64 (i : Int) : Bool := decide (i.natAbs < 2 ^ 64)
theorem small64_of {i : Int} (h : small64 i = true) : -(2 ^ 64) < i ∧ i < 2 ^ 64 := by
  simp only [small64, decide_eq_true_eq] at h
  omega
def wMul (fz : Bool) : F2 := fun a b st => match a, b with
  | .int i, .int j => if small64 i || small64 j then .ok (.int (i * j)) st else .stuck
  | a, .int k => match trkL st a with
    | some xs => if k.natAbs < 2 ^ 63 ∧ xs.length * k.toNat ≤ sizeLine then newL fz (List.replicate k.toNat xs).flatten st else .stuck
    | none => .stuck
  | _, _ => .stuck
def wDiv : F2 := fun a b st => match a, b with
  | .int i, .int j => if j ≠ 0 ∧ j.natAbs < 1073741824 then .ok (.int (i.fdiv j)) st else .stuck
  | _, _ => .stuck
def wMod : F2 := fun a b st => match a, b with
  | .int i, .int j => if j ≠ 0 then .ok (.int (i.fmod j)) st else .stuck
  | _, _ => .stuck
def wPow : F2 := fun a b st => match a, b with
  | .int i, .int j => if 0 ≤ j ∧ j.natAbs ≤ 1000000 ∧ i.natAbs < 2 ^ 64 then .ok (.int (i ^ j.toNat)) st else .stuck
  | _, _ => .stuck
section
variable {K : PySem.W.Frag} {T : Nat → Addr}
theorem VRs.flatrep {ρ η : List Addr} {H : Hp} {xs : List W} {vs : List V} (h : VRs K ρ η H xs vs) : ∀ n : Nat, VRs K ρ η H (List.replicate n xs).flatten (List.replicate n vs).flatten
  | 0 => by simpa using VRs.nil
  | n + 1 => by
    rw [List.replicate_succ, List.replicate_succ, List.flatten_cons, List.flatten_cons]
    exact h.append (VRs.flatrep h n)
theorem ok_add {fz : Bool} : OkR K T (wAdd fz) (rOr (rI0 fun i j => .int (i + j)) (rOr (fun x y H Q => ∃ i j, x = V.str i ∧ y = V.str j ∧ i.length + j.length ≤ sizeLine ∧ Q (V.str (i ++ j)) H) (rOr (rCatA K) rCat))) := by
  intro ρ η st H a b x y Q E s ha hb h
  unfold wAdd at h
  split at h
  · simp only [VR] at ha hb
    exact .inl ⟨_, _, ha, hb, h.ok s (by simp only [VR])⟩
  · split at h
    · rename_i q
      simp only [VR] at ha hb
      exact .inr (.inl ⟨_, _, ha, hb, q, h.ok s (by simp only [VR])⟩)
    · exact h.elim
  · split at h
    · rename_i xs ys q
      have hb2 := hb
      obtain ⟨p1, vs, e1, t1, r1⟩ := tup_ok ha rfl
      obtain ⟨p2, us, e2, t2, r2⟩ := tup_ok hb rfl
      refine .inr (.inr (.inl ⟨p1, p2, vs, us, e1, e2, t1, t2, by rw [r1.len, r2.len]; exact q, fun z => ?_, fun _ z => ?_, fun _ _ p n => newT_ok h s (r1.append r2) n⟩))
      · refine h.ok s ?_
        have l := r1.len
        rw [z] at l
        have e : xs = [] := List.eq_nil_of_length_eq_zero l.symm
        rw [e, List.nil_append, ← e2]
        exact hb2
      · refine h.ok s ?_
        have l := r2.len
        rw [z] at l
        have e : ys = [] := List.eq_nil_of_length_eq_zero l.symm
        rw [e, List.append_nil, ← e1]
        exact ha
    · exact h.elim
  · split at h
    · rename_i q1 q2
      obtain ⟨p1, vs, e1, t1, r1⟩ := trk_ok s ha q1
      obtain ⟨p2, us, e2, t2, r2⟩ := trk_ok s hb q2
      split at h
      · rename_i q
        exact .inr (.inr (.inr ⟨p1, p2, vs, us, e1, e2, t1, t2, by rw [r1.len, r2.len]; exact q, fun p n => newL_ok h s (r1.append r2) n⟩))
      · exact h.elim
    · exact h.elim
theorem ok_sub : OkR K T wSub (rI0 fun i j => .int (i - j)) := by
  intro ρ η st H a b x y Q E s ha hb h
  unfold wSub at h
  split at h
  · simp only [VR] at ha hb
    exact ⟨_, _, ha, hb, h.ok s (by simp only [VR])⟩
  · exact h.elim
theorem ok_mul {fz : Bool} : OkR K T (wMul fz) (rOr (rI CMul fun i j => .int (i * j)) rRep) := by
  intro ρ η st H a b x y Q E s ha hb h
  unfold wMul at h
  split at h
  · split at h
    · rename_i q
      simp only [VR] at ha hb
      refine .inl ⟨_, _, ha, hb, ?_, h.ok s (by simp only [VR])⟩
      simp only [Bool.or_eq_true] at q
      exact q.imp small64_of small64_of
    · exact h.elim
  · split at h
    · rename_i q1
      split at h
      · rename_i q
        obtain ⟨p1, vs, e1, t1, r1⟩ := trk_ok s ha q1
        simp only [VR] at hb
        exact .inr ⟨p1, _, vs, e1, hb, t1, by omega, by omega, by rw [r1.len]; exact q.2, fun p n => newL_ok h s (r1.flatrep _) n⟩
      · exact h.elim
    · exact h.elim
  · exact h.elim
theorem ok_div : OkR K T wDiv (rI CDivN fun i j => .int (i.fdiv j)) := by
  intro ρ η st H a b x y Q E s ha hb h
  unfold wDiv at h
  split at h
  · split at h
    · rename_i q
      simp only [VR] at ha hb
      exact ⟨_, _, ha, hb, q, h.ok s (by simp only [VR])⟩
    · exact h.elim
  · exact h.elim
theorem ok_mod : OkR K T wMod (rI (fun _ j => j ≠ 0) fun i j => .int (i.fmod j)) := by
  intro ρ η st H a b x y Q E s ha hb h
  unfold wMod at h
  split at h
  · split at h
    · rename_i q
      simp only [VR] at ha hb
      exact ⟨_, _, ha, hb, q, h.ok s (by simp only [VR])⟩
    · exact h.elim
  · exact h.elim
theorem ok_pow : OkR K T wPow (rI CPow fun i j => .int (i ^ j.toNat)) := by
  intro ρ η st H a b x y Q E s ha hb h
  unfold wPow at h
  split at h
  · split at h
    · rename_i q
      simp only [VR] at ha hb
      exact ⟨_, _, ha, hb, ⟨q.1, by omega, q.2.2⟩, h.ok s (by simp only [VR])⟩
    · exact h.elim
  · exact h.elim
end
end Mi
namespace Mi
open PySem L2

/-! ### equality -/
def scalV : W → Option V
  | .non => some .non
  | .bl b => some (.bl b)
  | .int i => some (.int i)
  | .str x => some (.str x)
  | _ => none
mutual
def toD0 : W → Option PyData
  | .non => some .none
  | .bl b => some (.bool b)
  | .int i => some (.int i)
  | .str x => some (.str x)
  | .tup xs => (toD0s xs).map .tuple
  | .lst xs => (toD0s xs).map .list
  | .scr xs => (toD0s xs).map .list
  | _ => none
def toD0s : List W → Option (List PyData)
  | [] => some []
  | x :: xs => match toD0 x, toD0s xs with
    | some d, some ds => some (d :: ds)
    | _, _ => none
end
mutual
def toD (st : Sto) : W → Option PyData
  | .non => some .none
  | .bl b => some (.bool b)
  | .int i => some (.int i)
  | .str x => some (.str x)
  | .tup xs => (toDs st xs).map .tuple
  | .lst xs => (toDs st xs).map .list
  | .scr xs => (toDs st xs).map .list
  | .ref i => match st[i]? with
    | some (.lst xs) => (toD0s xs).map .list
    | _ => none
  | _ => none
def toDs (st : Sto) : List W → Option (List PyData)
  | [] => some []
  | x :: xs => match toD st x, toDs st xs with
    | some d, some ds => some (d :: ds)
    | _, _ => none
end
section
variable {K : PySem.W.Frag} {T : Nat → Addr} {ρ η : List Addr} {H : Hp} {st : Sto}
theorem scal_ok {w : W} {v x : V} (h : VR K ρ η H w v) (e : scalV w = some x) : v = x := by
  cases w <;> simp [scalV] at e <;> subst e <;> simpa only [VR] using h
mutual
theorem toD0_ok : ∀ {w : W} {v : V} {d : PyData}, VR K ρ η H w v → toD0 w = some d → Dp K H v d
  | .non, v, d, h, e => by
    simp only [VR] at h; simp only [toD0, Option.some.injEq] at e; subst h; subst e; exact .non
  | .bl b, v, d, h, e => by
    simp only [VR] at h; simp only [toD0, Option.some.injEq] at e; subst h; subst e; exact .bl b
  | .int b, v, d, h, e => by
    simp only [VR] at h; simp only [toD0, Option.some.injEq] at e; subst h; subst e; exact .int b
  | .str b, v, d, h, e => by
    simp only [VR] at h; simp only [toD0, Option.some.injEq] at e; subst h; subst e; exact .str b
  | .tup xs, v, d, h, e => by
    simp only [VR] at h
    simp only [toD0, Option.map_eq_some_iff] at e
    obtain ⟨a, vs, h1, h2, h3⟩ := h
    obtain ⟨ds, e1, e2⟩ := e
    subst h1; subst e2
    exact .tup h2.sq (toD0s_ok h3 e1)
  | .lst xs, v, d, h, e => by
    simp only [VR] at h
    simp only [toD0, Option.map_eq_some_iff] at e
    obtain ⟨a, vs, h1, h2, h3⟩ := h
    obtain ⟨ds, e1, e2⟩ := e
    subst h1; subst e2
    exact .lst (SqL.of h2.2.2) (toD0s_ok h3 e1)
  | .scr xs, v, d, h, e => by
    simp only [VR] at h
    simp only [toD0, Option.map_eq_some_iff] at e
    obtain ⟨a, vs, h1, h2, h3⟩ := h
    obtain ⟨ds, e1, e2⟩ := e
    subst h1; subst e2
    exact .lst h2.sq (toD0s_ok h3 e1)
  | .ty n, v, d, h, e => by simp [toD0] at e
  | .ref n, v, d, h, e => by simp [toD0] at e
  | .at_ n, v, d, h, e => by simp [toD0] at e
  | .fn _ _ _ _, v, d, h, e => by simp [toD0] at e
theorem toD0s_ok : ∀ {ws : List W} {vs : List V} {ds : List PyData}, VRs K ρ η H ws vs → toD0s ws = some ds → DpAll K H vs ds
  | [], vs, ds, h, e => by
    simp only [VRs] at h; simp only [toD0s, Option.some.injEq] at e; subst h; subst e; exact .nil
  | x :: xs, vs, ds, h, e => by
    simp only [VRs] at h
    obtain ⟨v, r, h1, h2, h3⟩ := h
    simp only [toD0s] at e
    split at e
    · rename_i d ds' q1 q2
      cases e
      subst h1
      exact .cons (toD0_ok h2 q1) (toD0s_ok h3 q2)
    · cases e
end
mutual
theorem toD_ok (s : SR K T ρ η st H) : ∀ {w : W} {v : V} {d : PyData}, VR K ρ η H w v → toD st w = some d → Dp K H v d
  | .non, v, d, h, e => by
    simp only [VR] at h; simp only [toD, Option.some.injEq] at e; subst h; subst e; exact .non
  | .bl b, v, d, h, e => by
    simp only [VR] at h; simp only [toD, Option.some.injEq] at e; subst h; subst e; exact .bl b
  | .int b, v, d, h, e => by
    simp only [VR] at h; simp only [toD, Option.some.injEq] at e; subst h; subst e; exact .int b
  | .str b, v, d, h, e => by
    simp only [VR] at h; simp only [toD, Option.some.injEq] at e; subst h; subst e; exact .str b
  | .tup xs, v, d, h, e => by
    simp only [VR] at h
    simp only [toD, Option.map_eq_some_iff] at e
    obtain ⟨a, vs, h1, h2, h3⟩ := h
    obtain ⟨ds, e1, e2⟩ := e
    subst h1; subst e2
    exact .tup h2.sq (toDs_ok s h3 e1)
  | .lst xs, v, d, h, e => by
    simp only [VR] at h
    simp only [toD, Option.map_eq_some_iff] at e
    obtain ⟨a, vs, h1, h2, h3⟩ := h
    obtain ⟨ds, e1, e2⟩ := e
    subst h1; subst e2
    exact .lst (SqL.of h2.2.2) (toDs_ok s h3 e1)
  | .scr xs, v, d, h, e => by
    simp only [VR] at h
    simp only [toD, Option.map_eq_some_iff] at e
    obtain ⟨a, vs, h1, h2, h3⟩ := h
    obtain ⟨ds, e1, e2⟩ := e
    subst h1; subst e2
    exact .lst h2.sq (toDs_ok s h3 e1)
  | .ty n, v, d, h, e => by simp [toD] at e
  | .at_ n, v, d, h, e => by simp [toD] at e
  | .fn _ _ _ _, v, d, h, e => by simp [toD] at e
  | .ref i, v, d, h, e => by
    simp only [toD] at e
    split at e
    · rename_i xs q
      obtain ⟨a, h1, _, vs, h2, h3⟩ := node_at s h q
      simp only [Option.map_eq_some_iff] at e
      obtain ⟨ds, e1, e2⟩ := e
      subst h1; subst e2
      exact .lst (SqL.of h2) (toD0s_ok h3 e1)
    · cases e
theorem toDs_ok (s : SR K T ρ η st H) : ∀ {ws : List W} {vs : List V} {ds : List PyData}, VRs K ρ η H ws vs → toDs st ws = some ds → DpAll K H vs ds
  | [], vs, ds, h, e => by
    simp only [VRs] at h; simp only [toDs, Option.some.injEq] at e; subst h; subst e; exact .nil
  | x :: xs, vs, ds, h, e => by
    simp only [VRs] at h
    obtain ⟨v, r, h1, h2, h3⟩ := h
    simp only [toDs] at e
    split at e
    · rename_i d ds' q1 q2
      cases e
      subst h1
      exact .cons (toD_ok s h2 q1) (toDs_ok s h3 q2)
    · cases e
end
end
/-- whether two things are equal, where this is carried -/
def eqWD (st : Sto) (a b : W) : Option Bool := match toD st a, toD st b with
  | some d, some e => if SeqAt.shaped d && SeqAt.shaped e then some (d.eqv e) else none
  | _, _ => none
def eqW (st : Sto) (a b : W) : Option Bool :=
  match scalV a, scalV b with
  | some x, some y => if scal x y then some (decide (x = y)) else eqWD st a b
  | _, _ => eqWD st a b
def wEq : F2 := fun a b st => match eqW st a b with
  | some c => .ok (.bl c) st
  | none => .stuck
def wNe : F2 := fun a b st => match eqW st a b with
  | some c => .ok (.bl (!c)) st
  | none => .stuck
def isNon : W → Bool
  | .non => true
  | _ => false
def isBl (c : Bool) : W → Bool
  | .bl b => decide (b = c)
  | _ => false
def wIs : F2 := fun a b st => match b with
  | .non => .ok (.bl (isNon a)) st
  | .bl c => .ok (.bl (isBl c a)) st
  | _ => .stuck
def wIsNot : F2 := fun a b st => match b with
  | .non => .ok (.bl (!isNon a)) st
  | .bl c => .ok (.bl (!isBl c a)) st
  | _ => .stuck
/-- is, is not of flags -/
def rIsF (n : Bool) : R2 := fun x y H Q => ∃ c : Bool, y = .bl c ∧ Q (.bl (xor n (decide (x = .bl c)))) H
theorem op_isF {X : Cx} : OpR X (compareOp .Is) (rIsF false) := by
  intro pins s σ H x y v u Q I rx ry h
  obtain ⟨c, rfl, q⟩ := h
  cases (show u = Value.bool c from ry)
  by_cases e : x = .bl c
  · subst e
    cases (show v = Value.bool c from rx)
    exact PySem.wpAny_is_self rfl ⟨.bl true, H, I, rfl, by simpa using q⟩
  · refine PySem.wpAny_is_other ?_ ?_ ⟨.bl false, H, I, rfl, by simpa [e] using q⟩
    · cases x <;> first
        | (cases rx; rfl)
        | (obtain ⟨t, rfl⟩ := rx; rfl)
    · rintro rfl
      cases x <;> first
        | (cases rx; exact e rfl)
        | (cases rx; done)
        | (obtain ⟨t, z⟩ := rx; cases z)
        | (cases rx)
theorem op_isNotF {X : Cx} : OpR X (compareOp .IsNot) (rIsF true) := by
  intro pins s σ H x y v u Q I rx ry h
  obtain ⟨c, rfl, q⟩ := h
  cases (show u = Value.bool c from ry)
  by_cases e : x = .bl c
  · subst e
    cases (show v = Value.bool c from rx)
    exact PySem.wpAny_isNot_self rfl ⟨.bl false, H, I, rfl, by simpa using q⟩
  · refine PySem.wpAny_isNot_other ?_ ?_ ⟨.bl true, H, I, rfl, by simpa [e] using q⟩
    · cases x <;> first
        | (cases rx; rfl)
        | (obtain ⟨t, rfl⟩ := rx; rfl)
    · rintro rfl
      cases x <;> first
        | (cases rx; exact e rfl)
        | (cases rx; done)
        | (obtain ⟨t, z⟩ := rx; cases z)
        | (cases rx)
def wCmpS (p : Str → Str → Bool) (q : Int → Int → Bool) : F2 := fun a b st => match a, b with
  | .int i, .int j => .ok (.bl (q i j)) st
  | .str i, .str j => .ok (.bl (p i j)) st
  | _, _ => .stuck
section
variable {K : PySem.W.Frag} {T : Nat → Addr} {ρ η : List Addr} {H : Hp} {st : Sto}
theorem eqWD_ok {ρ η : List Addr} {H : Hp} {st : Sto} {a b : W} {x y : V} {c : Bool} (s : SR K T ρ η st H) (ha : VR K ρ η H a x) (hb : VR K ρ η H b y) (e : eqWD st a b = some c) : ∃ d e', Dp K H x d ∧ Dp K H y e' ∧ SeqAt.shaped d = true ∧ SeqAt.shaped e' = true ∧ c = d.eqv e' := by
  unfold eqWD at e
  split at e
  · rename_i d e' e1 e2
    split at e
    · rename_i z
      cases e
      rw [Bool.and_eq_true] at z
      exact ⟨d, e', toD_ok s ha e1, toD_ok s hb e2, z.1, z.2, rfl⟩
    · cases e
  · cases e
theorem ok_eq : OkR K T wEq (rOr rEq (rEqD K)) := by
  intro ρ η st H a b x y Q E s ha hb h
  unfold wEq at h
  cases e : eqW st a b with
  | none => rw [e] at h; exact h.elim
  | some c =>
    rw [e] at h
    have q : Q (.bl c) H := h.ok s (by simp only [VR])
    unfold eqW at e
    split at e
    · rename_i x' y' e1 e2
      split at e
      · rename_i z
        cases e
        have := scal_ok ha e1
        have := scal_ok hb e2
        subst x; subst y
        exact .inl ⟨z, q⟩
      · obtain ⟨d, e', h1, h2, h3, h4, rfl⟩ := eqWD_ok s ha hb e
        exact .inr ⟨d, e', h1, h2, h3, h4, q⟩
    · obtain ⟨d, e', h1, h2, h3, h4, rfl⟩ := eqWD_ok s ha hb e
      exact .inr ⟨d, e', h1, h2, h3, h4, q⟩
theorem ok_ne : OkR K T wNe (rOr rNe (rNeD K)) := by
  intro ρ η st H a b x y Q E s ha hb h
  unfold wNe at h
  cases e : eqW st a b with
  | none => rw [e] at h; exact h.elim
  | some c =>
    rw [e] at h
    have q : Q (.bl (!c)) H := h.ok s (by simp only [VR])
    unfold eqW at e
    split at e
    · rename_i x' y' e1 e2
      split at e
      · rename_i z
        cases e
        have := scal_ok ha e1
        have := scal_ok hb e2
        subst x; subst y
        exact .inl ⟨z, q⟩
      · obtain ⟨d, e', h1, h2, h3, h4, rfl⟩ := eqWD_ok s ha hb e
        exact .inr ⟨d, e', h1, h2, h3, h4, q⟩
    · obtain ⟨d, e', h1, h2, h3, h4, rfl⟩ := eqWD_ok s ha hb e
      exact .inr ⟨d, e', h1, h2, h3, h4, q⟩
theorem non_iff {w : W} {v : V} (h : VR K ρ η H w v) : decide (v = .non) = isNon w := by
  cases w with
  | non => simp only [VR] at h; subst h; rfl
  | bl b => simp only [VR] at h; subst h; rfl
  | int b => simp only [VR] at h; subst h; rfl
  | str b => simp only [VR] at h; subst h; rfl
  | ty b => simp only [VR] at h; subst h; rfl
  | tup xs => simp only [VR] at h; obtain ⟨a, vs, e, _⟩ := h; subst e; rfl
  | lst xs => simp only [VR] at h; obtain ⟨a, vs, e, _⟩ := h; subst e; rfl
  | scr xs => simp only [VR] at h; obtain ⟨a, vs, e, _⟩ := h; subst e; rfl
  | ref i => simp only [VR] at h; obtain ⟨a, _, e⟩ := h; subst e; rfl
  | at_ i => simp only [VR] at h; subst h; rfl
  | fn _ _ _ _ => simp only [VR] at h; obtain ⟨e, _⟩ := h; subst e; rfl
theorem bl_iff {c : Bool} {w : W} {v : V} (h : VR K ρ η H w v) : decide (v = .bl c) = isBl c w := by
  cases w with
  | bl b =>
    simp only [VR] at h
    subst h
    simp [isBl]
  | non => simp only [VR] at h; subst h; simp [isBl]
  | int i => simp only [VR] at h; subst h; simp [isBl]
  | str i => simp only [VR] at h; subst h; simp [isBl]
  | ty i => simp only [VR] at h; subst h; simp [isBl]
  | at_ i => simp only [VR] at h; subst h; simp [isBl]
  | fn _ _ _ _ => simp only [VR] at h; obtain ⟨e, _⟩ := h; subst e; simp [isBl]
  | ref i => simp only [VR] at h; obtain ⟨_, _, e⟩ := h; subst e; simp [isBl]
  | tup i => simp only [VR] at h; obtain ⟨_, _, e, _⟩ := h; subst e; simp [isBl]
  | lst i => simp only [VR] at h; obtain ⟨_, _, e, _⟩ := h; subst e; simp [isBl]
  | scr i => simp only [VR] at h; obtain ⟨_, _, e, _⟩ := h; subst e; simp [isBl]
theorem ok_is : OkR K T wIs (rOr (fun x y H Q => y = .non ∧ Q (.bl (decide (x = .non))) H) (rIsF false)) := by
  intro ρ η st H a b x y Q E s ha hb h
  unfold wIs at h
  split at h
  · simp only [VR] at hb
    refine .inl ⟨hb, ?_⟩
    rw [non_iff ha]
    exact h.ok s (by simp only [VR])
  · simp only [VR] at hb
    refine .inr ⟨_, hb, ?_⟩
    rw [bl_iff ha]
    exact h.ok s (by simp only [VR, Bool.false_bne])
  · exact h.elim
theorem ok_isnot : OkR K T wIsNot (rOr (fun x y H Q => y = .non ∧ Q (.bl (!decide (x = .non))) H) (rIsF true)) := by
  intro ρ η st H a b x y Q E s ha hb h
  unfold wIsNot at h
  split at h
  · simp only [VR] at hb
    refine .inl ⟨hb, ?_⟩
    rw [non_iff ha]
    exact h.ok s (by simp only [VR])
  · simp only [VR] at hb
    refine .inr ⟨_, hb, ?_⟩
    rw [bl_iff ha]
    exact h.ok s (by simp only [VR, Bool.true_bne])
  · exact h.elim
theorem ok_cmpS {p : Str → Str → Bool} {q : Int → Int → Bool} : OkR K T (wCmpS p q) (rOr (rI0 fun i j => .bl (q i j)) (fun x y H Q => ∃ i j, x = .str i ∧ y = .str j ∧ Q (.bl (p i j)) H)) := by
  intro ρ η st H a b x y Q E s ha hb h
  unfold wCmpS at h
  split at h
  · simp only [VR] at ha hb
    exact .inl ⟨_, _, ha, hb, h.ok s (by simp only [VR])⟩
  · simp only [VR] at ha hb
    exact .inr ⟨_, _, ha, hb, h.ok s (by simp only [VR])⟩
  · exact h.elim
end
end Mi
namespace Mi
open PySem L2

/-! ### the mirror of expressions -/
def mVar (i : Nat) : M W := fun env st => match env[i]? with
  | some (some w) => .ok w st
  | _ => .stuck
def mC (w : W) : M W := fun _ st => .ok w st
def mOp (f : F2) (ma mb : M W) : M W := fun env st => (ma env st).bind fun a s1 => (mb env s1).bind fun b s2 => f a b s2
def mNeg (ma : M W) : M W := fun env st => (ma env st).bind fun a s1 => match a with
  | .int i => .ok (.int (-i)) s1
  | _ => .stuck
def toB : W → Sto → Rs Bool
  | .bl b, st => .ok b st
  | _, _ => .stuck
/-- a value's truth -/
def trW (st : Sto) : W → Option Bool
  | .non => some false
  | .bl b => some b
  | .int i => some (i != 0)
  | .str x => if x.length ≤ sizeLine then some ((x.length : Int) != 0) else none
  | .lst xs => some (!xs.isEmpty)
  | .scr xs => some (!xs.isEmpty)
  | .tup xs => some (!xs.isEmpty)
  | .ref i => match st[i]? with
    | some (.lst xs) => some (!xs.isEmpty)
    | some (.dk kvs) => some (!kvs.isEmpty)
    | _ => none
  | _ => none
def mB (ma : M W) : M Bool := fun env st => (ma env st).bind toB
def mTr (ma : M W) : M Bool := fun env st => (ma env st).bind fun a s1 => match trW s1 a with
  | some b => .ok b s1
  | none => .stuck
def mNot (m : M Bool) : M Bool := fun env st => (m env st).bind fun b s1 => .ok (!b) s1
def mAnd (m k : M Bool) : M Bool := fun env st => (m env st).bind fun b s1 => if b = true then k env s1 else .ok false s1
def mOr (m k : M Bool) : M Bool := fun env st => (m env st).bind fun b s1 => if b = true then .ok true s1 else k env s1
def mIf {α : Type} (c : M Bool) (ma mb : M α) : M α := fun env st => (c env st).bind fun b s1 => if b = true then ma env s1 else mb env s1
def mBl (m : M Bool) : M W := fun env st => (m env st).bind fun b s1 => .ok (.bl b) s1
def mNil : M (List W) := fun _ st => .ok [] st
def mCons (ma : M W) (mr : M (List W)) : M (List W) := fun env st => (ma env st).bind fun a s1 => (mr env s1).bind fun r s2 => .ok (a :: r) s2
def mTup (m : M (List W)) : M W := fun env st => (m env st).bind fun ws s1 => .ok (.tup ws) s1
def mLst (fz : Bool) (m : M (List W)) : M W := fun env st => (m env st).bind fun ws s1 => newL fz ws s1
def mDict0 : M W := fun _ st => .ok (.ref st.length) (st ++ [.dk []])
/-- two comparisons in a row -/
def mChain (f g : F2) (ma mb mc : M W) : M W := fun env st => (ma env st).bind fun a s1 => (mb env s1).bind fun b s2 => (f a b s2).bind fun z s3 => match z with
  | .bl true => (mc env s3).bind fun c s4 => g b c s4
  | .bl false => .ok (.bl false) s3
  | _ => .stuck
def wNth (xs : List W) (i : Int) (st : Sto) : Rs W := match atI xs i with
  | some w => .ok w st
  | none => .stuck
def dkOf (st : Sto) : W → Option (List (Key × W))
  | .ref i => match st[i]? with
    | some (.dk kvs) => some kvs
    | some (.lk kvs) => some kvs
    | _ => none
  | _ => none
def keyOf : W → Option Key
  | .int i => some (.inl i)
  | .str x => some (.inr x)
  | _ => none
def lkW (kvs : List (Key × W)) (k : Key) : Option W := (kvs.find? fun kv => decide (kv.1 = k)).map (·.2)
/-- a[b] -/
def wIx : F2 := fun a b st => match dkOf st a with
  | some kvs => match keyOf b with
    | some k => match lkW kvs k with
      | some w => .ok w st
      | none => .stuck
    | none => .stuck
  | none => match b with
    | .int i => match seqL st a with
      | some xs => wNth xs i st
      | none => match a with
        | .tup xs => wNth xs i st
        | .str z => if z.length ≤ sizeLine then (match atI z.cps.toList i with | some c => .ok (.str ⟨#[c]⟩) st | none => .stuck) else .stuck
        | _ => .stuck
    | _ => .stuck
def cutW (xs : List W) (lo hi : Option Int) : List W := List.take (HT.sIx xs.length xs.length hi - HT.sIx xs.length 0 lo) (List.drop (HT.sIx xs.length 0 lo) xs)
def wSl (fz : Bool) (a : W) (lo hi : Option Int) (st : Sto) : Rs W := match seqL st a with
  | some xs => newL fz (cutW xs lo hi) st
  | none => match a with
    | .tup xs => .ok (.tup (cutW xs lo hi)) st
    | _ => .stuck
def mPart (m : M W) : M (Option Int) := fun env st => (m env st).bind fun a s1 => match a with
  | .int i => .ok (some i) s1
  | _ => .stuck
def mNoPart : M (Option Int) := fun _ st => .ok none st
def mSl (fz : Bool) (ma : M W) (ml mh : M (Option Int)) : M W := fun env st => (ma env st).bind fun a s1 => (ml env s1).bind fun lo s2 => (mh env s2).bind fun hi s3 => wSl fz a lo hi s3
def mFld (cs : List Nat) (f : Str) (ma : M W) : M W := fun env st => (ma env st).bind fun a s1 => match a with
  | .ref i => match s1[i]? with
    | some (.ins c fs) => if cs.contains c then (match fs.lookup f with | some w => .ok w s1 | none => .stuck) else .stuck
    | _ => .stuck
  | _ => .stuck

section
variable {X : Cx} {T : Nat → Addr} {Wx : WX'} {pos : Pos}
theorem se_var {i : Nat} {x : Str} (hN : X.N[i]? = some x) (hv : Vis X.env.scope x) (hd : (x == ("__debug__" : Str)) = false := by decide) (hcd : (x == ("__classdict__" : Str)) = false := by decide) : SE X T Wx (.Name x pos) (mVar i) := by
  intro ρ η st env σ H Q s er h
  unfold mVar at h
  split at h
  · rename_i w q
    obtain ⟨v, e, r⟩ := er.2 i w q
    exact ⟨_, pe_var hN hv hd hcd, v, e, h.ok s r⟩
  · exact h.elim
theorem se_c {e : Expr} {v : V} {w : W} (he : PE X e (tC v)) (r : ∀ ρ η H, VR X.K ρ η H w v) : SE X T Wx e (mC w) := fun ρ η st env σ H Q s er h => ⟨_, he, h.ok s (r ρ η H)⟩
theorem se_int {i j} : SE X T Wx (.Constant (.int i) j pos) (mC (.int i)) := se_c pe_int fun _ _ _ => by simp only [VR]
theorem se_bl {i j} : SE X T Wx (.Constant (.bool i) j pos) (mC (.bl i)) := se_c pe_bl fun _ _ _ => by simp only [VR]
theorem se_non {j} : SE X T Wx (.Constant .none j pos) (mC .non) := se_c pe_non fun _ _ _ => by simp only [VR]
theorem se_str {i j} : SE X T Wx (.Constant (.str i) j pos) (mC (.str i)) := se_c pe_str fun _ _ _ => by simp only [VR]
/-- a whole number of the module -/
theorem se_globI {x : Str} {i : Int} {u : Value} (hg : Gl X x) (hm : X.mg x = some u) (hr : RelV (.int i) u) (hd : (x == ("__debug__" : Str)) = false := by decide) : SE X T Wx (.Name x pos) (mC (.int i)) := se_c (pe_glob hg hm hr hd) fun _ _ _ => by simp only [VR]
theorem se_op {a b : Expr} {op : Operator} {r : R2} {f : F2} {ma mb : M W} (ho : OpR X (binaryOp op) r) (hf : OkR X.K T f r) (ha : SE X T Wx a ma) (hb : SE X T Wx b mb) : SE X T Wx (.BinOp a op b pos) (mOp f ma mb) := by
  intro ρ η st env σ H Q s er h
  refine ⟨_, pe_op ho pe_S pe_S, ?_⟩
  refine ha ρ η st env σ H _ s er (h.bind fun w s1 ρ1 H1 v g1 sr1 r1 h1 => ?_)
  refine hb ρ1 η s1 env σ H1 _ sr1 (er.mono g1) (h1.bind fun u s2 ρ2 H2 v2 g2 sr2 r2 h2 => ?_)
  exact hf ρ2 η s2 H2 w u v v2 Q _ sr2 (r1.mono g2) r2 h2
theorem se_cmp {a b : Expr} {op : CmpOp} {r : R2} {f : F2} {ma mb : M W} (ho : OpR X (compareOp op) r) (hf : OkR X.K T f r) (ha : SE X T Wx a ma) (hb : SE X T Wx b mb) (hm : behindInMarks op b = false) : SE X T Wx (.Compare a [op] [b] pos) (mOp f ma mb) := by
  intro ρ η st env σ H Q s er h
  refine ⟨_, pe_cmpR ho pe_S pe_S hm, ?_⟩
  refine ha ρ η st env σ H _ s er (h.bind fun w s1 ρ1 H1 v g1 sr1 r1 h1 => ?_)
  refine hb ρ1 η s1 env σ H1 _ sr1 (er.mono g1) (h1.bind fun u s2 ρ2 H2 v2 g2 sr2 r2 h2 => ?_)
  exact hf ρ2 η s2 H2 w u v v2 Q _ sr2 (r1.mono g2) r2 h2
theorem Rs.bind_assoc {α β γ : Type} (r : Rs α) (k : α → Sto → Rs β) (l : β → Sto → Rs γ) : (r.bind k).bind l = r.bind fun a s => (k a s).bind l := by
  cases r <;> rfl
theorem toB_ok {ρ η : List Addr} {H : Hp} {st : Sto} {w : W} {v : V} {Q : Bool → Hp → Prop} {E : Value → Option Addr → Hp → Prop} (s : SR X.K T ρ η st H) (r : VR X.K ρ η H w v) (h : After X.K T η (fun _ _ => Eq) ρ H (toB w st) Q E) : ∃ k, v = .bl k ∧ Q k H := by
  unfold toB at h
  split at h
  · simp only [VR] at r
    exact ⟨_, r, h.ok s rfl⟩
  · exact h.elim
theorem st_cmp {a b : Expr} {op : CmpOp} {r : R2} {f : F2} {ma mb : M W} (ho : OpR X (compareOp op) r) (hf : OkR X.K T f r) (ha : SE X T Wx a ma) (hb : SE X T Wx b mb) (hm : behindInMarks op b = false) : STt X T Wx (.Compare a [op] [b] pos) (mB (mOp f ma mb)) := by
  intro ρ η st env σ H Q s er h
  refine ⟨_, pt_cmpR ho pe_S pe_S hm, ?_⟩
  unfold mB mOp at h
  rw [Rs.bind_assoc] at h
  refine ha ρ η st env σ H _ s er (h.bind fun w s1 ρ1 H1 v g1 sr1 r1 h1 => ?_)
  rw [Rs.bind_assoc] at h1
  refine hb ρ1 η s1 env σ H1 _ sr1 (er.mono g1) (h1.bind fun u s2 ρ2 H2 v2 g2 sr2 r2 h2 => ?_)
  refine hf ρ2 η s2 H2 w u v v2 _ _ sr2 (r1.mono g2) r2 (h2.bind fun z s3 ρ3 H3 v3 g3 sr3 r3 h3 => ?_)
  exact toB_ok sr3 r3 h3
theorem tr_ok {ρ η : List Addr} {H : Hp} {st : Sto} {w : W} {v : V} {b : Bool} (s : SR X.K T ρ η st H) (r : VR X.K ρ η H w v) (e : trW st w = some b) : TruV X.K v H b := by
  have emp : ∀ {xs : List W} {vs : List V}, VRs X.K ρ η H xs vs → (!xs.isEmpty) = !vs.isEmpty := fun {xs vs} h => by
    have := h.len
    cases xs <;> cases vs <;> simp_all
  cases w with
  | non => simp only [VR] at r; subst r; simp only [trW, Option.some.injEq] at e; exact e.symm
  | bl k => simp only [VR] at r; subst r; simp only [trW, Option.some.injEq] at e; exact e.symm
  | int k => simp only [VR] at r; subst r; simp only [trW, Option.some.injEq] at e; exact e.symm
  | str k =>
    simp only [VR] at r
    subst r
    simp only [trW] at e
    split at e
    · rename_i q
      cases e
      exact ⟨q, rfl⟩
    · cases e
  | ty n => simp [trW] at e
  | at_ n => simp [trW] at e
  | fn _ _ _ _ => simp [trW] at e
  | lst xs =>
    obtain ⟨a, vs, h1, h2, h3⟩ := seq_ok s r (show seqL st (.lst xs) = some xs from rfl)
    simp only [trW, Option.some.injEq] at e
    subst h1; subst e
    exact .inl ⟨vs, h2, emp h3⟩
  | scr xs =>
    obtain ⟨a, vs, h1, h2, h3⟩ := seq_ok s r (show seqL st (.scr xs) = some xs from rfl)
    simp only [trW, Option.some.injEq] at e
    subst h1; subst e
    exact .inl ⟨vs, h2, emp h3⟩
  | tup xs =>
    obtain ⟨a, vs, h1, h2, h3⟩ := tup_ok r (show tupL (.tup xs) = some xs from rfl)
    simp only [trW, Option.some.injEq] at e
    subst h1; subst e
    exact .inr (.inl ⟨vs, h2, emp h3⟩)
  | ref i =>
    simp only [trW] at e
    split at e
    · rename_i xs q
      obtain ⟨a, h1, _, vs, h2, h3⟩ := node_at s r q
      cases e
      subst h1
      exact .inl ⟨vs, SqL.of h2, emp h3⟩
    · rename_i xs q
      obtain ⟨a, h1, _, kv, h2, h3, h4⟩ := node_at s r q
      cases e
      subst h1
      refine .inr (.inr ⟨kv, h2, ?_⟩)
      have := congrArg List.length h3
      cases xs <;> cases kv <;> simp_all
    · cases e
theorem st_tr {e : Expr} {m : M W} (he : SE X T Wx e m) (hi : ∀ whole, isTrue e X.env whole = (do let v ← whole; standAt e.pos; holding [v] (truthy v)) := by intro _; rfl) : STt X T Wx e (mTr m) := by
  intro ρ η st env σ H Q s er h
  refine ⟨_, pt_truth pe_S hi, ?_⟩
  refine he ρ η st env σ H _ s er (h.bind fun w s1 ρ1 H1 v g1 sr1 r1 h1 => ?_)
  cases e : trW s1 w with
  | none => rw [e] at h1; exact h1.elim
  | some b =>
    rw [e] at h1
    exact ⟨b, tr_ok sr1 r1 e, h1.ok sr1 rfl⟩
theorem st_not {e : Expr} {m : M Bool} (he : STt X T Wx e m) : STt X T Wx (.UnaryOp .Not e pos) (mNot m) := by
  intro ρ η st env σ H Q s er h
  refine ⟨_, pt_not pt_S, ?_⟩
  refine he ρ η st env σ H _ s er (h.bind fun b s1 ρ1 H1 v g1 sr1 r1 h1 => ?_)
  subst r1
  exact h1.ok sr1 rfl
theorem sw_and1 {e : Expr} {m : M Bool} (he : STt X T Wx e m) : SWt X T Wx (.BoolOp .And [e] pos) m := fun ρ η st env σ H Q s er h => ⟨_, pw_and1 pt_S, he ρ η st env σ H _ s er h⟩
theorem sw_or1 {e : Expr} {m : M Bool} (he : STt X T Wx e m) : SWt X T Wx (.BoolOp .Or [e] pos) m := fun ρ η st env σ H Q s er h => ⟨_, pw_or1 pt_S, he ρ η st env σ H _ s er h⟩
theorem sw_and {a b : Expr} {rest : List Expr} {m k : M Bool} (ha : STt X T Wx a m) (hb : SWt X T Wx (.BoolOp .And (b :: rest) pos) k) : SWt X T Wx (.BoolOp .And (a :: b :: rest) pos) (mAnd m k) := by
  intro ρ η st env σ H Q s er h
  refine ⟨_, pw_and pt_S pw_S, ?_⟩
  refine ha ρ η st env σ H _ s er (h.bind fun b s1 ρ1 H1 v g1 sr1 r1 h1 => ?_)
  subst r1
  cases b with
  | true => exact iteT (hb ρ1 η s1 env σ H1 Q sr1 (er.mono g1) h1)
  | false => exact iteF (h1.ok sr1 rfl)
theorem sw_or {a b : Expr} {rest : List Expr} {m k : M Bool} (ha : STt X T Wx a m) (hb : SWt X T Wx (.BoolOp .Or (b :: rest) pos) k) : SWt X T Wx (.BoolOp .Or (a :: b :: rest) pos) (mOr m k) := by
  intro ρ η st env σ H Q s er h
  refine ⟨_, pw_or pt_S pw_S, ?_⟩
  refine ha ρ η st env σ H _ s er (h.bind fun b s1 ρ1 H1 v g1 sr1 r1 h1 => ?_)
  subst r1
  cases b with
  | true => exact iteT (h1.ok sr1 rfl)
  | false => exact iteF (hb ρ1 η s1 env σ H1 Q sr1 (er.mono g1) h1)
theorem st_w {e : Expr} {m : M Bool} (h : SWt X T Wx e m) : STt X T Wx e m := fun ρ η st env σ H Q s er q => by
  obtain ⟨t, h1, h2⟩ := h ρ η st env σ H Q s er q
  exact ⟨t, h1.pt, h2⟩
/-- bools as values -/
theorem se_and1 {op} {e : Expr} {m : M Bool} (he : SE X T Wx e (mBl m)) : SE X T Wx (.BoolOp op [e] pos) (mBl m) := fun ρ η st env σ H Q s er h => ⟨_, pe_one pe_S, he ρ η st env σ H _ s er h⟩
theorem se_and {a b : Expr} {rest : List Expr} {m k : M Bool} (ha : SE X T Wx a (mBl m)) (hb : SE X T Wx (.BoolOp .And (b :: rest) pos) (mBl k)) : SE X T Wx (.BoolOp .And (a :: b :: rest) pos) (mBl (mAnd m k)) := by
  intro ρ η st env σ H Q s er h
  refine ⟨_, pe_and pe_S pe_S, ?_⟩
  unfold mBl mAnd at h
  rw [Rs.bind_assoc] at h
  have h' : After X.K T η (fun ρ H => VR X.K ρ η H) ρ H ((mBl m env st).bind fun w s1 => match w with | .bl b => (if b = true then k env s1 else Rs.ok false s1).bind fun b s1 => .ok (.bl b) s1 | _ => .stuck) Q (fun c d H' => Wx c d σ H') := by
    unfold mBl
    rw [Rs.bind_assoc]
    exact h
  refine ha ρ η st env σ H _ s er (h'.bind fun w s1 ρ1 H1 v g1 sr1 r1 h1 => ?_)
  split at h1
  · rename_i c
    simp only [VR] at r1
    refine ⟨c, r1, ?_⟩
    cases c with
    | true => exact iteT (hb ρ1 η s1 env σ H1 Q sr1 (er.mono g1) h1)
    | false => exact iteF (h1.ok sr1 (by simp only [VR]))
  · exact h1.elim
theorem se_or {a b : Expr} {rest : List Expr} {m k : M Bool} (ha : SE X T Wx a (mBl m)) (hb : SE X T Wx (.BoolOp .Or (b :: rest) pos) (mBl k)) : SE X T Wx (.BoolOp .Or (a :: b :: rest) pos) (mBl (mOr m k)) := by
  intro ρ η st env σ H Q s er h
  refine ⟨_, pe_or pe_S pe_S, ?_⟩
  unfold mBl mOr at h
  rw [Rs.bind_assoc] at h
  have h' : After X.K T η (fun ρ H => VR X.K ρ η H) ρ H ((mBl m env st).bind fun w s1 => match w with | .bl b => (if b = true then Rs.ok true s1 else k env s1).bind fun b s1 => .ok (.bl b) s1 | _ => .stuck) Q (fun c d H' => Wx c d σ H') := by
    unfold mBl
    rw [Rs.bind_assoc]
    exact h
  refine ha ρ η st env σ H _ s er (h'.bind fun w s1 ρ1 H1 v g1 sr1 r1 h1 => ?_)
  split at h1
  · rename_i c
    simp only [VR] at r1
    refine ⟨c, r1, ?_⟩
    cases c with
    | true => exact iteT (h1.ok sr1 (by simp only [VR]))
    | false => exact iteF (hb ρ1 η s1 env σ H1 Q sr1 (er.mono g1) h1)
  · exact h1.elim
theorem se_not {e : Expr} {m : M Bool} (he : SE X T Wx e (mBl m)) : SE X T Wx (.UnaryOp .Not e pos) (mBl (mNot m)) := by
  intro ρ η st env σ H Q s er h
  refine ⟨_, pe_not pe_S, ?_⟩
  have h' : After X.K T η (fun ρ H => VR X.K ρ η H) ρ H ((mBl m env st).bind fun w s1 => match w with | .bl b => .ok (.bl (!b)) s1 | _ => .stuck) Q (fun c d H' => Wx c d σ H') := by
    unfold mBl
    rw [Rs.bind_assoc]
    unfold mBl mNot at h
    rw [Rs.bind_assoc] at h
    exact h
  refine he ρ η st env σ H _ s er (h'.bind fun w s1 ρ1 H1 v g1 sr1 r1 h1 => ?_)
  split at h1
  · rename_i c
    simp only [VR] at r1
    exact ⟨c, r1, h1.ok sr1 (by simp only [VR])⟩
  · exact h1.elim
/-- a bool as a value, by its mirror -/
theorem se_bB {e : Expr} {m : M W} (he : SE X T Wx e m) : SE X T Wx e (mBl (mB m)) := by
  intro ρ η st env σ H Q s er h
  refine he ρ η st env σ H Q s er ?_
  unfold mBl mB at h
  rw [Rs.bind_assoc] at h
  cases q : m env st with
  | ok w s1 =>
    rw [q] at h
    cases w with
    | bl b => exact h
    | _ => exact h.elim
  | ex x s1 => rw [q] at h; exact h
  | stuck => rw [q] at h; exact h
theorem se_ifx {c a b : Expr} {m : M Bool} {ma mb : M W} (hc : STt X T Wx c m) (ha : SE X T Wx a ma) (hb : SE X T Wx b mb) : SE X T Wx (.IfExp c a b pos) (mIf m ma mb) := by
  intro ρ η st env σ H Q s er h
  refine ⟨_, pe_ifExp pt_S pe_S pe_S, ?_⟩
  refine hc ρ η st env σ H _ s er (h.bind fun b s1 ρ1 H1 v g1 sr1 r1 h1 => ?_)
  subst r1
  cases b with
  | true => exact iteT (ha ρ1 η s1 env σ H1 Q sr1 (er.mono g1) h1)
  | false => exact iteF (hb ρ1 η s1 env σ H1 Q sr1 (er.mono g1) h1)
theorem se_neg {e : Expr} {m : M W} (he : SE X T Wx e m) : SE X T Wx (.UnaryOp .USub e pos) (mNeg m) := by
  intro ρ η st env σ H Q s er h
  refine ⟨_, pe_un un_neg pe_S, ?_⟩
  refine he ρ η st env σ H _ s er (h.bind fun w s1 ρ1 H1 v g1 sr1 r1 h1 => ?_)
  split at h1
  · simp only [VR] at r1
    exact ⟨_, r1, h1.ok sr1 (by simp only [VR])⟩
  · exact h1.elim
end
end Mi
namespace Mi
open PySem L2
section
variable {X : Cx} {T : Nat → Addr} {Wx : WX'} {pos : Pos}
/-! ### argument lists, displays -/
theorem sa_nil : SA X T Wx [] mNil := fun ρ η st env σ H Q s er h => ⟨_, pa_nil, h.ok s VRs.nil⟩
theorem sa_cons {e : Expr} {es : List Expr} {m : M W} {k : M (List W)} (he : SE X T Wx e m) (hs : SA X T Wx es k) (hst : starEach (e :: es) X.env = (false, eval e X.env) :: starEach es X.env := by rfl) : SA X T Wx (e :: es) (mCons m k) := by
  intro ρ η st env σ H Q s er h
  refine ⟨_, pa_cons pe_S pa_S hst, ?_⟩
  refine he ρ η st env σ H _ s er (h.bind fun w s1 ρ1 H1 v g1 sr1 r1 h1 => ?_)
  refine hs ρ1 η s1 env σ H1 _ sr1 (er.mono g1) (h1.bind fun ws s2 ρ2 H2 vs g2 sr2 r2 h2 => ?_)
  exact h2.ok sr2 (VRs.cons (r1.mono g2) r2)
/-- how long an argument list is -/
def ArgLen (n : Nat) (m : M (List W)) : Prop := ∀ env st ws st', m env st = .ok ws st' → ws.length = n
theorem len_nil : ArgLen 0 mNil := fun env st ws st' h => by
  simp only [mNil, Rs.ok.injEq] at h
  rw [← h.1]; rfl
theorem len_cons {n : Nat} {m : M W} {k : M (List W)} (h : ArgLen n k) : ArgLen (n + 1) (mCons m k) := fun env st ws st' e => by
  unfold mCons at e
  cases q : m env st with
  | ok w s1 =>
    rw [q] at e
    simp only [Rs.bind] at e
    cases q2 : k env s1 with
    | ok r s2 =>
      rw [q2] at e
      simp only [Rs.ok.injEq] at e
      rw [← e.1, List.length_cons, h env s1 r s2 q2]
    | ex x s2 => rw [q2] at e; cases e
    | stuck => rw [q2] at e; cases e
  | ex x s1 => rw [q] at e; cases e
  | stuck => rw [q] at e; cases e
theorem se_tup {es : List Expr} {k : M (List W)} {n : Nat} {x1} (h : SA X T Wx es k) (hl : ArgLen n k) (hn : n ≤ 1000 := by decide) : SE X T Wx (.Tuple es x1 pos) (mTup k) := by
  intro ρ η st env σ H Q s er q
  refine ⟨_, pe_tup pa_S, ?_⟩
  have ql : ∀ ws st', k env st = .ok ws st' → ws.length = n := fun ws st' e => hl env st ws st' e
  refine h ρ η st env σ H _ s er ?_
  unfold mTup at q
  cases e : k env st with
  | ok ws s1 =>
    rw [e] at q
    refine fun ρ1 H1 vs g1 sr1 r1 => ⟨?_, fun p hp => newT_ok (After.grow g1 q) sr1 r1 hp⟩
    rw [r1.len, ql ws s1 e]
    exact Nat.le_trans hn (by decide)
  | ex x s1 => rw [e] at q; exact q
  | stuck => rw [e] at q; exact q
theorem se_lst {fz : Bool} {es : List Expr} {k : M (List W)} {n : Nat} (h : SA X T Wx es k) (hl : ArgLen n k) (hn : n ≤ 1000 := by decide) : SE X T Wx (.List es pos) (mLst fz k) := by
  intro ρ η st env σ H Q s er q
  refine ⟨_, pe_lst pa_S, ?_⟩
  have ql : ∀ ws st', k env st = .ok ws st' → ws.length = n := fun ws st' e => hl env st ws st' e
  refine h ρ η st env σ H _ s er ?_
  unfold mLst at q
  cases e : k env st with
  | ok ws s1 =>
    rw [e] at q
    refine fun ρ1 H1 vs g1 sr1 r1 => ⟨?_, fun p hp => newL_ok (After.grow g1 q) sr1 r1 hp⟩
    rw [r1.len, ql ws s1 e]
    exact Nat.le_trans hn (by decide)
  | ex x s1 => rw [e] at q; exact q
  | stuck => rw [e] at q; exact q
theorem se_dict0 : SE X T Wx (.Dict [] [] pos) mDict0 := by
  intro ρ η st env σ H Q s er h
  refine ⟨_, pe_dnewK, fun d hd => ?_⟩
  refine h (ρ ++ [d]) _ _ (Grow.node hd) (s.node hd ⟨[], upd_same, rfl, VRs.nil⟩) ?_
  simp only [VR]
  exact ⟨d, by rw [← s.len, List.getElem?_append_right (Nat.le_refl _)]; simp, rfl⟩
/-- a op b op' c -/
theorem se_chain {a b c : Expr} {op op' : CmpOp} {r r' : R2} {f g : F2} {ma mb mc : M W} (ho : OpR X (compareOp op) r) (hf : OkR X.K T f r) (ho' : OpR X (compareOp op') r') (hg : OkR X.K T g r') (ha : SE X T Wx a ma) (hb : SE X T Wx b mb) (hc : SE X T Wx c mc)
    (hl : lastMarks [op, op'] [b, c] = false := by rfl) : SE X T Wx (.Compare a [op, op'] [b, c] pos) (mChain f g ma mb mc) := by
  intro ρ η st env σ H Q s er h
  refine ⟨_, pe_chain ho ho' pe_S pe_S pe_S hl, ?_⟩
  refine ha ρ η st env σ H _ s er (h.bind fun w s1 ρ1 H1 v g1 sr1 r1 h1 => ?_)
  refine hb ρ1 η s1 env σ H1 _ sr1 (er.mono g1) (h1.bind fun u s2 ρ2 H2 v2 g2 sr2 r2 h2 => ?_)
  refine hf ρ2 η s2 H2 w u v v2 _ _ sr2 (r1.mono g2) r2 (h2.bind fun z s3 ρ3 H3 v3 g3 sr3 r3 h3 => ?_)
  split at h3
  · simp only [VR] at r3
    refine ⟨true, r3, iteT ?_⟩
    refine hc ρ3 η s3 env σ H3 _ sr3 ((er.mono g1).mono (g2.trans g3)) (h3.bind fun x s4 ρ4 H4 v4 g4 sr4 r4 h4 => ?_)
    exact hg ρ4 η s4 H4 u x v2 v4 Q _ sr4 (r2.mono (g3.trans g4)) r4 h4
  · simp only [VR] at r3
    exact ⟨false, r3, iteF (h3.ok sr3 (by simp only [VR]))⟩
  · exact h3.elim
theorem st_chain {a b c : Expr} {op op' : CmpOp} {r r' : R2} {f g : F2} {ma mb mc : M W} (ho : OpR X (compareOp op) r) (hf : OkR X.K T f r) (ho' : OpR X (compareOp op') r') (hg : OkR X.K T g r') (ha : SE X T Wx a ma) (hb : SE X T Wx b mb) (hc : SE X T Wx c mc)
    (hl : lastMarks [op, op'] [b, c] = false := by rfl) : STt X T Wx (.Compare a [op, op'] [b, c] pos) (mB (mChain f g ma mb mc)) := by
  intro ρ η st env σ H Q s er h
  refine ⟨_, pt_chain ho ho' pe_S pe_S pe_S hl, ?_⟩
  unfold mB mChain at h
  rw [Rs.bind_assoc] at h
  refine ha ρ η st env σ H _ s er (h.bind fun w s1 ρ1 H1 v g1 sr1 r1 h1 => ?_)
  rw [Rs.bind_assoc] at h1
  refine hb ρ1 η s1 env σ H1 _ sr1 (er.mono g1) (h1.bind fun u s2 ρ2 H2 v2 g2 sr2 r2 h2 => ?_)
  rw [Rs.bind_assoc] at h2
  refine hf ρ2 η s2 H2 w u v v2 _ _ sr2 (r1.mono g2) r2 (h2.bind fun z s3 ρ3 H3 v3 g3 sr3 r3 h3 => ?_)
  split at h3
  · simp only [VR] at r3
    refine ⟨true, r3, iteT ?_⟩
    rw [Rs.bind_assoc] at h3
    refine hc ρ3 η s3 env σ H3 _ sr3 ((er.mono g1).mono (g2.trans g3)) (h3.bind fun x s4 ρ4 H4 v4 g4 sr4 r4 h4 => ?_)
    exact hg ρ4 η s4 H4 u x v2 v4 _ _ sr4 (r2.mono (g3.trans g4)) r4 (h4.bind fun y s5 ρ5 H5 v5 g5 sr5 r5 h5 => toB_ok sr5 r5 h5)
  · simp only [VR] at r3
    exact ⟨false, r3, iteF ⟨false, rfl, h3.ok sr3 rfl⟩⟩
  · exact h3.elim

/-! ### subscripts -/
theorem VRs.atI {ρ η : List Addr} {H : Hp} {xs : List W} {vs : List V} {i : Int} {w : W} (r : VRs X.K ρ η H xs vs) (e : atI xs i = some w) : ∃ v, atI vs i = some v ∧ VR X.K ρ η H w v := by
  unfold L2.atI at e ⊢
  rw [r.len]
  cases q : ixN xs.length i with
  | none => rw [q] at e; cases e
  | some j =>
    rw [q] at e
    exact r.get e
theorem kv_find {ρ η : List Addr} {H : Hp} : ∀ {kvs : List (Key × W)} {kv : List (Key × V)} {k : Key}, kv.map (·.1) = kvs.map (·.1) → VRs X.K ρ η H (kvs.map (·.2)) (kv.map (·.2)) →
    (lkW kvs k = none ∧ valV kv k = none) ∨ ∃ w v, lkW kvs k = some w ∧ valV kv k = some v ∧ VR X.K ρ η H w v
  | [], [], k, _, _ => .inl ⟨rfl, rfl⟩
  | [], p :: kv, k, e, _ => by simp at e
  | p :: kvs, [], k, e, _ => by simp at e
  | (a, w) :: kvs, (b, v) :: kv, k, e, r => by
    simp only [List.map_cons, List.cons.injEq] at e
    obtain ⟨e1, e2⟩ := e
    subst e1
    rw [List.map_cons, List.map_cons] at r
    simp only [VRs] at r
    obtain ⟨v', r', q1, q2, q3⟩ := r
    simp only [List.cons.injEq] at q1
    obtain ⟨q1, q4⟩ := q1
    subst q1; subst q4
    by_cases z : b = k
    · refine .inr ⟨w, v, ?_, ?_, q2⟩
      · simp [lkW, z]
      · simp [valV, z]
    · rcases kv_find (k := k) e2 q3 with ⟨h1, h2⟩ | ⟨w', v', h1, h2, h3⟩
      · refine .inl ⟨?_, ?_⟩
        · simpa [lkW, z] using h1
        · simpa [valV, z] using h2
      · refine .inr ⟨w', v', ?_, ?_, h3⟩
        · simpa [lkW, z] using h1
        · simpa [valV, z] using h2
theorem key_ok {ρ η : List Addr} {H : Hp} {w : W} {v : V} {k : Key} (r : VR X.K ρ η H w v) (e : keyOf w = some k) : v = kV k := by
  cases w <;> simp [keyOf] at e <;> subst e <;> simp only [VR] at r <;> exact r
theorem dk_ok {ρ η : List Addr} {H : Hp} {st : Sto} {w : W} {v : V} {kvs : List (Key × W)} (s : SR X.K T ρ η st H) (r : VR X.K ρ η H w v) (e : dkOf st w = some kvs) :
    ∃ a kv, v = .ref a ∧ Rd H a (.dK kv) ∧ kv.map (·.1) = kvs.map (·.1) ∧ VRs X.K ρ η H (kvs.map (·.2)) (kv.map (·.2)) := by
  cases w with
  | ref i =>
    simp only [dkOf] at e
    split at e
    · rename_i ks q
      cases e
      obtain ⟨a, h1, _, kv, h2, h3, h4⟩ := node_at s r q
      exact ⟨a, kv, h1, .inl h2, h3, h4⟩
    · rename_i ks q
      cases e
      obtain ⟨a, h1, _, od, kv, h2, h3, h4⟩ := node_at s r q
      exact ⟨a, kv, h1, .inr ⟨od, h2⟩, h3, h4⟩
    · cases e
  | _ => simp [dkOf] at e
theorem nth_ok {ρ η : List Addr} {H : Hp} {st : Sto} {xs : List W} {vs : List V} {i : Int} {Q : V → Hp → Prop} {E : Value → Option Addr → Hp → Prop} (s : SR X.K T ρ η st H) (r : VRs X.K ρ η H xs vs) (h : After X.K T η (fun ρ H => VR X.K ρ η H) ρ H (wNth xs i st) Q E) :
    ∃ v, atI vs i = some v ∧ Q v H := by
  unfold wNth at h
  split at h
  · rename_i w q
    obtain ⟨v, h1, h2⟩ := r.atI q
    exact ⟨v, h1, h.ok s h2⟩
  · exact h.elim
theorem After.bindE {α β γ δ : Type} {K : PySem.W.Frag} {ρ η : List Addr} {H : Hp} {R : List Addr → Hp → α → β → Prop} {R' : List Addr → Hp → γ → δ → Prop} {r : Rs α} {k : α → Sto → Rs γ} {Q : δ → Hp → Prop} {Q1 : β → Hp → Prop} {E : Value → Option Addr → Hp → Prop} (h : After K T η R' ρ H (r.bind k) Q E)
    (f : ∀ w st1 ρ1 H1 v, r = .ok w st1 → Grow ρ H ρ1 H1 → SR K T ρ1 η st1 H1 → R ρ1 H1 w v → After K T η R' ρ1 H1 (k w st1) Q E → Q1 v H1) : After K T η R ρ H r Q1 E := by
  cases r with
  | ok w s => exact fun ρ1 H1 v g s1 r1 => f w s ρ1 H1 v rfl g s1 r1 (After.grow g h)
  | ex x s => exact h
  | stuck => exact h
theorem se_ix {a b : Expr} {ma mb : M W} (hu : X.A.units + 1 < cLine) (ha : SE X T Wx a ma) (hb : SE X T Wx b mb) (hp : PlainIx b := by intro _ _; rfl) : SE X T Wx (.Subscript a b pos) (mOp wIx ma mb) := by
  intro ρ η st env σ H Q s er h
  by_cases hd : ∃ w s1 u s2 kvs, ma env st = .ok w s1 ∧ mb env s1 = .ok u s2 ∧ dkOf s2 w = some kvs
  · obtain ⟨w, s1, u, s2, kvs, e1, e2, e3⟩ := hd
    refine ⟨_, pe_dget hu pe_S pe_S hp, ?_⟩
    refine ha ρ η st env σ H _ s er (After.bindE h fun w' s1' ρ1 H1 v q1 g1 sr1 r1 h1 => ?_)
    rw [e1] at q1
    cases q1
    refine hb ρ1 η s1 env σ H1 _ sr1 (er.mono g1) (After.bindE h1 fun u' s2' ρ2 H2 v2 q2 g2 sr2 r2 h2 => ?_)
    rw [e2] at q2
    cases q2
    unfold wIx at h2
    rw [e3] at h2
    dsimp only at h2
    split at h2
    · rename_i k q3
      obtain ⟨p, kv, f1, f2, f3, f4⟩ := dk_ok sr2 (r1.mono g2) e3
      rcases kv_find (k := k) f3 f4 with ⟨z1, z2⟩ | ⟨y, z, z1, z2, z3⟩
      · rw [z1] at h2; exact h2.elim
      · rw [z1] at h2
        refine ⟨p, z, f1, .inl ⟨kv, k, f2, key_ok r2 q3, z2.symm⟩, h2.ok sr2 z3⟩
    · exact h2.elim
  · refine ⟨_, pe_ix (IxR.or ix_list (IxR.or ix_tup ix_str)) pe_S pe_S hp, ?_⟩
    refine ha ρ η st env σ H _ s er (After.bindE h fun w s1 ρ1 H1 v q1 g1 sr1 r1 h1 => ?_)
    refine hb ρ1 η s1 env σ H1 _ sr1 (er.mono g1) (After.bindE h1 fun u s2 ρ2 H2 v2 q2 g2 sr2 r2 h2 => ?_)
    have nd : dkOf s2 w = none := by
      cases e : dkOf s2 w with
      | none => rfl
      | some kvs => exact absurd ⟨w, s1, u, s2, kvs, q1, q2, e⟩ hd
    unfold wIx at h2
    rw [nd] at h2
    dsimp only at h2
    have rw1 := r1.mono g2
    split at h2
    · rename_i i
      simp only [VR] at r2
      split at h2
      · rename_i xs q3
        obtain ⟨p, vs, f1, f2, f3⟩ := seq_ok sr2 rw1 q3
        obtain ⟨z, z1, z2⟩ := nth_ok sr2 f3 h2
        exact .inl ⟨p, vs, i, z, f1, r2, f2, z1, z2⟩
      · split at h2
        · rename_i xs _
          obtain ⟨p, vs, f1, f2, f3⟩ := tup_ok rw1 (show tupL (.tup xs) = some xs from rfl)
          obtain ⟨z, z1, z2⟩ := nth_ok sr2 f3 h2
          exact .inr (.inl ⟨p, vs, i, z, f1, r2, f2, z1, z2⟩)
        · rename_i z _
          split at h2
          · rename_i lz
            split at h2
            · rename_i c q4
              simp only [VR] at rw1
              exact .inr (.inr ⟨z, i, c, rw1, r2, lz, q4, h2.ok sr2 (by simp only [VR])⟩)
            · exact h2.elim
          · exact h2.elim
        · exact h2.elim
    · exact h2.elim
/-! ### slices -/
theorem VRs.cut {ρ η : List Addr} {H : Hp} {xs : List W} {vs : List V} (r : VRs X.K ρ η H xs vs) (lo hi : Option Int) : VRs X.K ρ η H (cutW xs lo hi) (cutV vs lo hi) := by
  unfold cutW cutV
  rw [r.len]
  exact (r.drop _).take _
def SPt (e : Option Expr) (m : M (Option Int)) : Prop := ∀ ρ η st env σ H Q, SR X.K T ρ η st H → ER X.K ρ η H env σ → After X.K T η (fun _ _ => Eq) ρ H (m env st) Q (fun c d H' => Wx c d σ H') → ∃ t, PO X e t ∧ t σ H Q
theorem sp_none : SPt (X := X) (T := T) (Wx := Wx) none mNoPart := fun ρ η st env σ H Q s er h => ⟨_, po_none, h.ok s rfl⟩
theorem sp_some {e : Expr} {m : M W} (he : SE X T Wx e m) : SPt (X := X) (T := T) (Wx := Wx) (some e) (mPart m) := by
  intro ρ η st env σ H Q s er h
  refine ⟨_, po_some pe_S, ?_⟩
  refine he ρ η st env σ H _ s er (h.bind fun w s1 ρ1 H1 v g1 sr1 r1 h1 => ?_)
  split at h1
  · rename_i i
    simp only [VR] at r1
    exact ⟨i, r1, h1.ok sr1 rfl⟩
  · exact h1.elim
def tSO (e : Option Expr) : TO := fun σ H Q => ∃ t, PO X e t ∧ t σ H Q
theorem po_S {e : Option Expr} : PO X e (tSO (X := X) e) := ⟨fun pins s σ H Q I ⟨_, h, q⟩ => h.run pins s σ H Q I q⟩
theorem se_sl {fz : Bool} {a : Expr} {lo hi : Option Expr} {ma : M W} {ml mh : M (Option Int)} {p2 : Pos} (ha : SE X T Wx a ma) (hl : SPt (X := X) (T := T) (Wx := Wx) lo ml) (hh : SPt (X := X) (T := T) (Wx := Wx) hi mh) :
    SE X T Wx (.Subscript a (.Slice lo hi none p2) pos) (mSl fz ma ml mh) := by
  intro ρ η st env σ H Q s er h
  refine ⟨_, pe_slice (L2.SlR.or sl_list sl_tupA) pe_S po_S po_S, ?_⟩
  refine ha ρ η st env σ H _ s er (h.bind fun w s1 ρ1 H1 v g1 sr1 r1 h1 => ?_)
  refine hl ρ1 η s1 env σ H1 _ sr1 (er.mono g1) (h1.bind fun l s2 ρ2 H2 l' g2 sr2 r2 h2 => ?_)
  subst r2
  refine hh ρ2 η s2 env σ H2 _ sr2 ((er.mono g1).mono g2) (h2.bind fun u s3 ρ3 H3 u' g3 sr3 r3 h3 => ?_)
  subst r3
  have r := r1.mono (g2.trans g3)
  unfold wSl at h3
  split at h3
  · rename_i xs q
    obtain ⟨p, vs, f1, f2, f3⟩ := seq_ok sr3 r q
    exact .inl ⟨p, vs, f1, f2, fun d hd => newL_ok h3 sr3 (f3.cut l u) hd⟩
  · split at h3
    · rename_i xs q
      have r' := r
      obtain ⟨p, vs, f1, f2, f3⟩ := tup_ok r (show tupL (.tup xs) = some xs from rfl)
      refine .inr ⟨p, vs, f1, f2, fun z => ?_, fun _ d hd => newT_ok h3 sr3 (f3.cut l u) hd⟩
      refine h3.ok sr3 ?_
      have e : cutW xs l u = xs := by
        rw [f3.len] at z
        unfold cutW
        rw [z.1, z.2, Nat.sub_zero, List.drop_zero, List.take_of_length_le (Nat.le_refl _)]
      rw [e, ← f1]
      exact r'
    · exact h3.elim
/-! ### fields -/
theorem fv_find {ρ η : List Addr} {H : Hp} : ∀ {fs : List (Str × W)} {fv : List (Str × V)} {f : Str} {w : W}, fv.map (·.1) = fs.map (·.1) → VRs X.K ρ η H (fs.map (·.2)) (fv.map (·.2)) → fs.lookup f = some w → ∃ v, fv.lookup f = some v ∧ VR X.K ρ η H w v
  | [], _, _, _, _, _, h => by simp at h
  | (a, y) :: fs, [], _, _, e, _, _ => by simp at e
  | (a, y) :: fs, (b, z) :: fv, f, w, e, r, h => by
    simp only [List.map_cons, List.cons.injEq] at e
    obtain ⟨e1, e2⟩ := e
    subst e1
    rw [List.map_cons, List.map_cons] at r
    simp only [VRs] at r
    obtain ⟨v', r', q1, q2, q3⟩ := r
    simp only [List.cons.injEq] at q1
    obtain ⟨q1, q4⟩ := q1
    subst q1; subst q4
    rw [List.lookup_cons] at h ⊢
    split at h
    · cases h
      exact ⟨z, rfl, q2⟩
    · exact fv_find e2 q3 h
theorem se_fld {cs : List Nat} {a : Expr} {f : Str} {ma : M W} (ha : SE X T Wx a ma) (hc : ∀ c ∈ cs, Cls X.K (T c) ∧ NoAttr X.K (T c) f) (hb : attributeBase a f X.env (eval a X.env) = eval a X.env := by rfl) : SE X T Wx (.Attribute a f pos) (mFld cs f ma) := by
  intro ρ η st env σ H Q s er h
  refine ⟨_, pe_fld pe_S hb, ?_⟩
  refine ha ρ η st env σ H _ s er (h.bind fun w s1 ρ1 H1 v g1 sr1 r1 h1 => ?_)
  split at h1
  · rename_i i
    split at h1
    · rename_i c fs q
      split at h1
      · rename_i z
        split at h1
        · rename_i w' q2
          obtain ⟨p, e1, _, dx, fv, e2, e3, e4⟩ := node_at sr1 r1 q
          obtain ⟨v', e5, e6⟩ := fv_find e3 e4 q2
          obtain ⟨k1, k2⟩ := hc c (by simpa using z)
          exact ⟨p, T c, dx, fv, v', e1, e2, k1, k2, e5, h1.ok sr1 e6⟩
        · exact h1.elim
      · exact h1.elim
    · exact h1.elim
  · exact h1.elim
end
end Mi
namespace Mi
open PySem L2
inductive SRs where
  | nx (env : Ev) (s : Sto) | rt (w : W) (s : Sto) | bk (env : Ev) (s : Sto) | ct (env : Ev) (s : Sto) | ex (x : Xc) (env : Ev) (s : Sto) | stuck
abbrev MS := Ev → Sto → SRs
def SAfter (K : PySem.W.Frag) (T : Nat → Addr) (η ρ : List Addr) (H : Hp) (r : SRs) (D : Ends) (Wx : WX') : Prop := match r with
  | .nx env st => ∀ ρ' H' σ', Grow ρ H ρ' H' → SR K T ρ' η st H' → ER K ρ' η H' env σ' → D.nx σ' H'
  | .bk env st => ∀ ρ' H' σ', Grow ρ H ρ' H' → SR K T ρ' η st H' → ER K ρ' η H' env σ' → D.bk σ' H'
  | .ct env st => ∀ ρ' H' σ', Grow ρ H ρ' H' → SR K T ρ' η st H' → ER K ρ' η H' env σ' → D.ct σ' H'
  | .rt w st => ∀ ρ' H' v, Grow ρ H ρ' H' → SR K T ρ' η st H' → VR K ρ' η H' w v → D.rt v H'
  | .ex x env st => ∀ ρ' H' σ' c d, Grow ρ H ρ' H' → SR K T ρ' η st H' → ER K ρ' η H' env σ' → XR T x c d → Wx c d σ' H'
  | .stuck => False
def Rs.to {α : Type} (r : Rs α) (env : Ev) (k : α → Sto → SRs) : SRs := match r with
  | .ok a s => k a s
  | .ex x s => .ex x env s
  | .stuck => .stuck
section
variable {K : PySem.W.Frag} {T : Nat → Addr} {ρ ρ' η : List Addr} {H H' : Hp} {st : Sto}
theorem SAfter.grow {r : SRs} {D : Ends} {Wx : WX'} (g : Grow ρ H ρ' H') (h : SAfter K T η ρ H r D Wx) : SAfter K T η ρ' H' r D Wx := by
  cases r with
  | nx env s => exact fun ρ2 H2 σ g2 => h ρ2 H2 σ (g.trans g2)
  | bk env s => exact fun ρ2 H2 σ g2 => h ρ2 H2 σ (g.trans g2)
  | ct env s => exact fun ρ2 H2 σ g2 => h ρ2 H2 σ (g.trans g2)
  | rt w s => exact fun ρ2 H2 v g2 => h ρ2 H2 v (g.trans g2)
  | ex x env s => exact fun ρ2 H2 σ c d g2 => h ρ2 H2 σ c d (g.trans g2)
  | stuck => exact h
theorem SAfter.bind {α β : Type} {R : List Addr → Hp → α → β → Prop} {r : Rs α} {env : Ev} {σ : St} {k : α → Sto → SRs} {D : Ends} {Wx : WX'} {Q1 : β → Hp → Prop} (h : SAfter K T η ρ H (r.to env k) D Wx) (er : ER K ρ η H env σ)
    (f : ∀ w st1 ρ1 H1 v, r = .ok w st1 → Grow ρ H ρ1 H1 → SR K T ρ1 η st1 H1 → R ρ1 H1 w v → SAfter K T η ρ1 H1 (k w st1) D Wx → Q1 v H1) : After K T η R ρ H r Q1 (fun c d H' => Wx c d σ H') := by
  cases r with
  | ok w s => exact fun ρ1 H1 v g s1 r1 => f w s ρ1 H1 v rfl g s1 r1 (SAfter.grow g h)
  | ex x s => exact fun ρ1 H1 c d g s1 xr => h ρ1 H1 σ c d g s1 (er.mono g) xr
  | stuck => exact h
theorem SAfter.nx {env : Ev} {σ : St} {D : Ends} {Wx : WX'} (h : SAfter K T η ρ H (.nx env st) D Wx) (s : SR K T ρ η st H) (e : ER K ρ η H env σ) : D.nx σ H := h ρ H σ Grow.refl s e
end
section
variable (X : Cx) (T : Nat → Addr) (Wx : WX')
def SSt (c : Stmt) (m : MS) : Prop := ∀ ρ η st env σ H D, SR X.K T ρ η st H → ER X.K ρ η H env σ → SAfter X.K T η ρ H (m env st) D Wx → tSS X c D σ H
def SSs (c : List Stmt) (m : MS) : Prop := ∀ ρ η st env σ H D, SR X.K T ρ η st H → ER X.K ρ η H env σ → SAfter X.K T η ρ H (m env st) D Wx → tSSs X c D σ H
end
/-- targets -/
abbrev MG := W → Ev → Sto → Option (Ev × Sto)
def gName' (i : Nat) : MG := fun w env st => some (env.set i (some w), st)
def gAll : List MG → List W → Ev → Sto → Option (Ev × Sto)
  | [], [], env, st => some (env, st)
  | g :: gs, w :: ws, env, st => match g w env st with
    | some (env1, st1) => gAll gs ws env1 st1
    | none => none
  | _, _, _, _ => none
def gTup' (gs : List MG) : MG := fun w env st => match w with
  | .tup ws => gAll gs ws env st
  | _ => none
def wSet (o i v : W) (st : Sto) : Option Sto := match o with
  | .ref n => match st[n]? with
    | some (.lst xs) => match i with
      | .int k => match ixN xs.length k with
        | some j => some (st.set n (.lst (xs.set j v)))
        | none => none
      | _ => none
    | _ => none
  | _ => none
def gOk (K : PySem.W.Frag) (T : Nat → Addr) (η ρ : List Addr) (H : Hp) (r : Option (Ev × Sto)) (Q : St → Hp → Prop) : Prop := match r with
  | some (env, st) => ∀ ρ' H' σ', Grow ρ H ρ' H' → SR K T ρ' η st H' → ER K ρ' η H' env σ' → Q σ' H'
  | none => False
def tSG (X : Cx) (e : Expr) : TG := fun v σ H Q => ∃ t, PG X e t ∧ t v σ H Q
theorem pg_S {X : Cx} {e : Expr} : PG X e (tSG X e) := ⟨fun pins s σ H v u Q I r ⟨_, h, q⟩ => h.run pins s σ H v u Q I r q⟩
def SGt (X : Cx) (T : Nat → Addr) (e : Expr) (g : MG) : Prop := ∀ ρ η st env σ H w v Q, SR X.K T ρ η st H → ER X.K ρ η H env σ → VR X.K ρ η H w v → gOk X.K T η ρ H (g w env st) Q → tSG X e v σ H Q
def SGs (X : Cx) (T : Nat → Addr) (es : List Expr) (gs : List MG) : Prop := ∀ ρ η st env σ H ws vs Q, SR X.K T ρ η st H → ER X.K ρ η H env σ → VRs X.K ρ η H ws vs → gOk X.K T η ρ H (gAll gs ws env st) Q → ∃ t, PGs X es t ∧ t vs σ H Q
theorem pgs_S {X : Cx} {es : List Expr} : PGs X es (fun vs σ H Q => ∃ t, PGs X es t ∧ t vs σ H Q) := ⟨fun pins s σ H vs us Q I r ⟨_, h, q⟩ => h.run pins s σ H vs us Q I r q⟩

def sNx : MS := fun env st => .nx env st
def sSeq (m k : MS) : MS := fun env st => match m env st with
  | .nx env1 st1 => k env1 st1
  | r => r
def sExpr (m : M W) : MS := fun env st => (m env st).to env fun _ s => .nx env s
def sRet (m : M W) : MS := fun env st => (m env st).to env fun w s => .rt w s
def sRetN : MS := fun _ st => .rt .non st
def sIf (c : M Bool) (m k : MS) : MS := fun env st => (c env st).to env fun b s => if b = true then m env s else k env s
def gDo (r : Option (Ev × Sto)) : SRs := match r with
  | some (env, st) => .nx env st
  | none => .stuck
def sAsg (m : M W) (g : MG) : MS := fun env st => (m env st).to env fun w s => gDo (g w env s)
def putW (f : Str) (v : W) : List (Str × W) → List (Str × W)
  | [] => [(f, v)]
  | (g, w) :: r => if g = f then (f, v) :: r else (g, w) :: putW f v r
def wSetF (cs : List Nat) (f : Str) (o v : W) (st : Sto) : Option Sto := match o with
  | .ref n => match st[n]? with
    | some (.ins c fs) => if cs.contains c ∧ fs.length < 1000 then some (st.set n (.ins c (putW f v fs))) else none
    | _ => none
  | _ => none
/-- o.f = e: e first -/
def sFld' (cs : List Nat) (f : Str) (mo m : M W) : MS := fun env st => (m env st).to env fun v s => (mo env s).to env fun o s2 => match wSetF cs f o v s2 with
  | some s3 => .nx env s3
  | none => .stuck

section
variable {X : Cx} {T : Nat → Addr} {Wx : WX'} {pos : Pos}
theorem sss_nil : SSs X T Wx [] sNx := fun ρ η st env σ H D s er h => ⟨_, pss_nil, h.nx s er⟩
theorem sss_one {c : Stmt} {m : MS} (h : SSt X T Wx c m) : SSs X T Wx [c] m := fun ρ η st env σ H D s er q => ⟨_, pss_one ps_S, h ρ η st env σ H D s er q⟩
theorem sss_cons {c : Stmt} {cs : List Stmt} {m k : MS} (h : SSt X T Wx c m) (hs : SSs X T Wx cs k) : SSs X T Wx (c :: cs) (sSeq m k) := by
  intro ρ η st env σ H D s er q
  refine ⟨_, pss_cons ps_S pss_S, ?_⟩
  refine h ρ η st env σ H _ s er ?_
  unfold sSeq at q
  cases e : m env st with
  | nx env1 st1 =>
    rw [e] at q
    exact fun ρ1 H1 σ1 g1 sr1 er1 => hs ρ1 η st1 env1 σ1 H1 D sr1 er1 (SAfter.grow g1 q)
  | rt w s1 => rw [e] at q; exact q
  | bk env1 s1 => rw [e] at q; exact q
  | ct env1 s1 => rw [e] at q; exact q
  | ex x env1 s1 => rw [e] at q; exact q
  | stuck => rw [e] at q; exact q
theorem ss_ret {e : Expr} {m : M W} (h : SE X T Wx e m) : SSt X T Wx (.Return (some e) pos) (sRet m) := by
  intro ρ η st env σ H D s er q
  refine ⟨_, ps_ret pe_S, ?_⟩
  exact h ρ η st env σ H _ s er (q.bind er fun w s1 ρ1 H1 v _ g1 sr1 r1 h1 => h1 ρ1 H1 v Grow.refl sr1 r1)
theorem ss_expr {e : Expr} {m : M W} (h : SE X T Wx e m) (hs : swapsWith e none pos.line X.env = pure false := by rfl) : SSt X T Wx (.Expr e pos) (sExpr m) := by
  intro ρ η st env σ H D s er q
  refine ⟨_, ps_expr pe_S hs, ?_⟩
  exact h ρ η st env σ H _ s er (q.bind er fun w s1 ρ1 H1 v _ g1 sr1 r1 h1 => h1.nx sr1 (er.mono g1))
theorem ss_if {c : Expr} {a b : List Stmt} {mc : M Bool} {m k : MS} (hc : STt X T Wx c mc) (ha : SSs X T Wx a m) (hb : SSs X T Wx b k) : SSt X T Wx (.If c a b pos) (sIf mc m k) := by
  intro ρ η st env σ H D s er q
  refine ⟨_, ps_if pt_S pss_S pss_S, ?_⟩
  refine hc ρ η st env σ H _ s er (q.bind er fun w s1 ρ1 H1 v _ g1 sr1 r1 h1 => ?_)
  subst r1
  cases w with
  | true => exact iteT (ha ρ1 η s1 env σ H1 D sr1 (er.mono g1) h1)
  | false => exact iteF (hb ρ1 η s1 env σ H1 D sr1 (er.mono g1) h1)
/-! ### targets -/
theorem sg_name {i : Nat} {x : Str} (hN : X.N.Nodup) (hi : X.N[i]? = some x) (hx : Loc X.env.scope x) (hf : X.fn x = true ∨ X.env.scope.names.lookup x = some .local := by first | exact .inl rfl | exact .inr rfl) : SGt X T (.Name x pos) (gName' i) :=
  fun ρ η st env σ H w v Q s er r h => ⟨_, pg_name hN hi hx hf, h ρ H _ Grow.refl s (er.set r)⟩
theorem sgs_nil : SGs X T [] [] := by
  intro ρ η st env σ H ws vs Q s er r h
  refine ⟨_, pgs_nil, ?_⟩
  cases ws with
  | nil => simp only [VRs] at r; exact ⟨r, h ρ H σ Grow.refl s er⟩
  | cons w ws => exact h.elim
theorem sgs_cons {e : Expr} {es : List Expr} {g : MG} {gs : List MG} (h1 : SGt X T e g) (h2 : SGs X T es gs) (hs : (assignEach (e :: es) X.env).map (·.2) = assign e X.env :: (assignEach es X.env).map (·.2) := by rfl) : SGs X T (e :: es) (g :: gs) := by
  intro ρ η st env σ H ws vs Q s er r h
  refine ⟨_, pgs_cons pg_S pgs_S hs, ?_⟩
  cases ws with
  | nil => exact h.elim
  | cons w ws =>
    simp only [VRs] at r
    obtain ⟨v, rv, e1, r1, r2⟩ := r
    refine ⟨v, rv, e1, h1 ρ η st env σ H w v _ s er r1 ?_⟩
    unfold gAll at h
    cases q : g w env st with
    | none => rw [q] at h; exact h.elim
    | some p =>
      rw [q] at h
      obtain ⟨env1, st1⟩ := p
      intro ρ1 H1 σ1 g1 sr1 er1
      refine h2 ρ1 η st1 env1 σ1 H1 ws rv Q sr1 er1 (r2.mono g1) ?_
      dsimp only at h
      cases q2 : gAll gs ws env1 st1 with
      | none => rw [q2] at h; exact h.elim
      | some p2 =>
        rw [q2] at h
        obtain ⟨env2, st2⟩ := p2
        exact fun ρ2 H2 σ2 g2 => h ρ2 H2 σ2 (g1.trans g2)
theorem sg_tup {es : List Expr} {k : Nat} {gs : List MG} (hc : X.calm = true) (h : SGs X T es gs) (hn : (assignEach es X.env).length = gs.length := by rfl) (hst : (assignEach es X.env).findIdx? (·.1) = none := by rfl) : SGt X T (.Tuple es k pos) (gTup' gs) := by
  intro ρ η st env σ H w v Q s er r q
  refine ⟨_, pg_tup hc pgs_S hn hst, ?_⟩
  unfold gTup' at q
  split at q
  · rename_i ws
    obtain ⟨a, vs, e1, e2, e3⟩ := tup_ok r (show tupL (.tup ws) = some ws from rfl)
    refine ⟨a, vs, e1, e2, ?_, h ρ η st env σ H ws vs Q s er e3 q⟩
    rw [e3.len]
    have : ∀ (gs : List MG) (ws : List W) (env : Ev) (st : Sto), (gAll gs ws env st).isSome = true → ws.length = gs.length := by
      intro gs
      induction gs with
      | nil => intro ws env st; cases ws <;> simp [gAll]
      | cons g gs ih =>
        intro ws env st
        cases ws with
        | nil => simp [gAll]
        | cons w ws =>
          intro z
          unfold gAll at z
          cases q : g w env st with
          | none => rw [q] at z; cases z
          | some p =>
            rw [q] at z
            simp only [List.length_cons, ih ws p.1 p.2 z]
    refine this gs ws env st ?_
    cases z : gAll gs ws env st with
    | none => rw [z] at q; exact q.elim
    | some p => rfl
  · exact q.elim
theorem ss_asg {tg e : Expr} {m : M W} {g : MG} (he : SE X T Wx e m) (hg : SGt X T tg g) (hs : swapsWithSole [tg] e pos.line X.env = pure false := by rfl) (hw : swappedStores [tg] e X.env = pure none := by rfl)
    (h1 : (assignEach [tg] X.env).map (·.2) = [assign tg X.env] := by rfl) : SSt X T Wx (.Assign [tg] e pos) (sAsg m g) := by
  intro ρ η st env σ H D s er q
  refine ⟨_, ps_asg pe_S pg_S hs hw h1, ?_⟩
  refine he ρ η st env σ H _ s er (q.bind er fun w s1 ρ1 H1 v _ g1 sr1 r1 h2 => ?_)
  refine hg ρ1 η s1 env σ H1 w v _ sr1 (er.mono g1) r1 ?_
  unfold gDo at h2
  cases z : g w env s1 with
  | none => rw [z] at h2; exact h2.elim
  | some p => rw [z] at h2; exact h2
theorem ss_set {i : Nat} {x : Str} {e : Expr} {m : M W} {pos' : Pos} (hN : X.N.Nodup) (hi : X.N[i]? = some x) (hx : Loc X.env.scope x) (he : SE X T Wx e m) (hs : swapsWith e (some (.Name x pos')) pos.line X.env = pure false := by rfl) (hf : X.fn x = true ∨ X.env.scope.names.lookup x = some .local := by first | exact .inl rfl | exact .inr rfl) :
    SSt X T Wx (.Assign [.Name x pos'] e pos) (sAsg m (gName' i)) := by
  intro ρ η st env σ H D s er q
  refine ⟨_, ps_set hN hi hx pe_S hs hf, ?_⟩
  exact he ρ η st env σ H _ s er (q.bind er fun w s1 ρ1 H1 v _ g1 sr1 r1 h2 => h2 ρ1 H1 _ Grow.refl sr1 ((er.mono g1).set r1))
end
end Mi
namespace Mi
open PySem L2
/-- more hidden ones, all of them new -/
def Hid (η : List Addr) (H : Hp) (η' : List Addr) : Prop := (∀ a ∈ η, a ∈ η') ∧ ∀ a ∈ η', a ∈ η ∨ H a = none
section
variable {K : PySem.W.Frag} {T : Nat → Addr} {ρ ρ' η η' : List Addr} {H H' : Hp} {st : Sto}
theorem Hid.refl : Hid η H η := ⟨fun _ h => h, fun _ h => .inl h⟩
theorem Hid.not {a : Addr} {o : HO} (k : Hid η H η') (n : a ∉ η) (h : H a = some o) : a ∉ η' := fun z => by
  rcases k.2 a z with z | z
  · exact n z
  · rw [z] at h; cases h
theorem GH.more (g : Grow ρ H ρ' H') (k : Hid η H η') : GH ρ η H ρ' η' H' := by
  obtain ⟨t, e, _⟩ := g.pre
  exact ⟨⟨t, e⟩, fun a o h1 h2 h3 n => ⟨g.out h1 h3 n, k.not h2 h3, g.same a o h1 h3 n⟩⟩
theorem TupAt.more {a : Addr} {vs : List V} (g : Grow ρ H ρ' H') (k : Hid η H η') (h : TupAt K ρ η H a vs) : TupAt K ρ' η' H' a vs := by
  rcases h with ⟨h1, h2, h3⟩ | h
  · obtain ⟨o, e, n⟩ := rd_some h3
    exact .inl ⟨g.out h1 e n, k.not h2 e, g.rd h1 h3⟩
  · exact .inr h
theorem LstAt.more {a : Addr} {vs : List V} (g : Grow ρ H ρ' H') (k : Hid η H η') (h : LstAt K ρ η H a vs) : LstAt K ρ' η' H' a vs := by
  rcases h with ⟨h1, h2, h3⟩ | h
  · obtain ⟨o, e, n⟩ := rd_some h3
    exact .inl ⟨g.out h1 e n, k.not h2 e, g.rd h1 h3⟩
  · exact .inr h
mutual
theorem VR.more (g : Grow ρ H ρ' H') (k : Hid η H η') : ∀ {w : W} {v : V}, VR K ρ η H w v → VR K ρ' η' H' w v
  | .non, _, h => h
  | .bl _, _, h => h
  | .int _, _, h => h
  | .str _, _, h => h
  | .ty _, _, h => h
  | .at_ _, _, h => h
  | .fn _ _ _ _, _, h => ⟨h.1, h.2.trans (GH.more g k)⟩
  | .ref i, v, h => by
    simp only [VR] at h ⊢
    obtain ⟨a, e, r⟩ := h
    exact ⟨a, g.at e, r⟩
  | .tup xs, v, h => by
    simp only [VR] at h ⊢
    obtain ⟨a, vs, e, t, r⟩ := h
    exact ⟨a, vs, e, t.more g k, VRs.more g k r⟩
  | .lst xs, v, h => by
    simp only [VR] at h ⊢
    obtain ⟨a, vs, e, ⟨t1, t2, t3⟩, r⟩ := h
    exact ⟨a, vs, e, ⟨g.out t1 t3, k.not t2 t3, g.same _ _ t1 t3⟩, VRs.more g k r⟩
  | .scr xs, v, h => by
    simp only [VR] at h ⊢
    obtain ⟨a, vs, e, t, r⟩ := h
    exact ⟨a, vs, e, t.more g k, VRs.more g k r⟩
theorem VRs.more (g : Grow ρ H ρ' H') (k : Hid η H η') : ∀ {ws : List W} {vs : List V}, VRs K ρ η H ws vs → VRs K ρ' η' H' ws vs
  | [], _, h => by simpa only [VRs] using h
  | x :: xs, vs, h => by
    simp only [VRs] at h ⊢
    obtain ⟨v, r, e, h1, h2⟩ := h
    exact ⟨v, r, e, VR.more g k h1, VRs.more g k h2⟩
end
end

/-! ### what a loop walks -/
structure Src where
  fuel : Nat
  at_ : Nat → Sto → Option (Option W)
def fixS (xs : List W) : Src := ⟨xs.length + 1, fun i _ => some xs[i]?⟩
def nodS (n : Nat) (len : Nat) : Src := ⟨len + 1, fun i st => match st[n]? with
  | some (.lst xs) => some xs[i]?
  | _ => none⟩
def SrcOk (K : PySem.W.Frag) (T : Nat → Addr) (ρ η : List Addr) (H : Hp) (s : Src) (J : It) : Prop := ∀ η', Hid η H η' → ∀ (i : Nat) (ρ' : List Addr) (H' : Hp) (st' : Sto), Grow ρ H ρ' H' → SR K T ρ' η' st' H' →
  match s.at_ i st' with
  | some (some w) => J.go i H' ∧ ∀ x H2, J.yld i H' x H2 → Grow ρ' H' ρ' H2 ∧ SR K T ρ' η' st' H2 ∧ VR K ρ' η' H2 w x
  | some none => J.stop i H'
  | none => True
abbrev MI := Ev → Sto → Rs Src
def SI (X : Cx) (T : Nat → Addr) (Wx : WX') (tg iter : Expr) (m : MI) : Prop := ∀ ρ η st env σ H (Q : It → Hp → Prop), SR X.K T ρ η st H → ER X.K ρ η H env σ → After X.K T η (fun ρ H s J => SrcOk X.K T ρ η H s J) ρ H (m env st) Q (fun c d H' => Wx c d σ H') → ∃ t, PI X tg iter t ∧ t σ H Q
def tSI (X : Cx) (tg iter : Expr) : TI := fun σ H Q => ∃ t, PI X tg iter t ∧ t σ H Q
theorem pi_S {X : Cx} {tg iter : Expr} : PI X tg iter (tSI X tg iter) := ⟨fun pins s σ H R I ⟨_, h, q⟩ => h.run pins s σ H R I q⟩
/-- the loop -/
def forS (s : Src) (g : MG) (body : MS) : Nat → Nat → MS
  | 0, _ => fun _ _ => .stuck
  | n + 1, i => fun env st => match s.at_ i st with
    | some (some w) => match g w env st with
      | some (env1, st1) => match body env1 st1 with
        | .nx env2 st2 => forS s g body n (i + 1) env2 st2
        | .ct env2 st2 => forS s g body n (i + 1) env2 st2
        | .bk env2 st2 => .nx env2 st2
        | r => r
      | none => .stuck
    | some none => .nx env st
    | none => .stuck
def sFor (m : MI) (g : MG) (body : MS) : MS := fun env st => (m env st).to env fun s st1 => forS s g body s.fuel 0 env st1
def whileS (c : M Bool) (body : MS) : Nat → MS
  | 0 => fun _ _ => .stuck
  | n + 1 => fun env st => (c env st).to env fun b s => if b = true then (match body env s with
        | .nx env2 st2 => whileS c body n env2 st2
        | .ct env2 st2 => whileS c body n env2 st2
        | .bk env2 st2 => .nx env2 st2
        | r => r) else .nx env s
def sWhile (fuel : Nat) (c : M Bool) (body : MS) : MS := whileS c body fuel
section
variable {X : Cx} {T : Nat → Addr} {Wx : WX'} {pos : Pos}
theorem ss_for {tg iter : Expr} {body : List Stmt} {mi : MI} {g : MG} {m : MS} (hp : PassesOwn (model X.prog X.w) X.A X.env X.xe) (hc : X.calm = true) (hi : SI X T Wx tg iter mi) (hg : SGt X T tg g) (hb : SSs X T Wx body m)
    (hs : ∀ x, foldedSetIterable iter X.env x = pure x := by intro _; rfl) : SSt X T Wx (.For tg iter body [] pos) (sFor mi g m) := by
  intro ρ η st env σ H D s er q
  refine ⟨_, ps_for hp hc pi_S pg_S pss_S hs, ?_⟩
  refine hi ρ η st env σ H _ s er (q.bind er fun src s1 ρ1 H1 J _ g1 sr1 ok h1 => ?_)
  refine ⟨fun i n σ' H' => ∃ ρ' st' env', Grow ρ1 H1 ρ' H' ∧ SR X.K T ρ' η st' H' ∧ ER X.K ρ' η H' env' σ' ∧ SAfter X.K T η ρ' H' (forS src g m n i env' st') D Wx, ⟨src.fuel, ρ1, s1, env, Grow.refl, sr1, er.mono g1, h1⟩, ?_⟩
  rintro i n σ2 H2 ⟨ρ2, st2, env2, g2, sr2, er2, h2⟩
  cases n with
  | zero => exact h2.elim
  | succ n =>
    have k := ok η Hid.refl i ρ2 H2 st2 g2 sr2
    unfold forS at h2
    split at h2
    · rename_i w e
      rw [e] at k
      obtain ⟨k1, k2⟩ := k
      refine .inr ⟨k1, fun σ' H' => ∃ ρ' st' env', Grow ρ1 H1 ρ' H' ∧ SR X.K T ρ' η st' H' ∧ ER X.K ρ' η H' env' σ' ∧ SAfter X.K T η ρ' H' (forS src g m n (i + 1) env' st') D Wx, fun σ' H' z => ⟨n, Nat.lt_succ_self n, z⟩, fun x H3 y => ?_⟩
      obtain ⟨g3, sr3, r3⟩ := k2 x H3 y
      refine hg ρ2 η st2 env2 σ2 H3 w x _ sr3 (er2.mono g3) r3 ?_
      split at h2
      · rename_i env4 st4 e2
        rw [e2]
        intro ρ4 H4 σ4 g4 sr4 er4
        refine hb ρ4 η st4 env4 σ4 H4 _ sr4 er4 ?_
        split at h2
        · rename_i env5 st5 e5
          rw [e5]
          exact fun ρ5 H5 σ5 g5 sr5 er5 => ⟨ρ5, st5, env5, ((g2.trans g3).trans g4).trans g5, sr5, er5, SAfter.grow ((g3.trans g4).trans g5) h2⟩
        · rename_i env5 st5 e5
          rw [e5]
          exact fun ρ5 H5 σ5 g5 sr5 er5 => ⟨ρ5, st5, env5, ((g2.trans g3).trans g4).trans g5, sr5, er5, SAfter.grow ((g3.trans g4).trans g5) h2⟩
        · rename_i env5 st5 e5
          rw [e5]
          exact fun ρ5 H5 σ5 g5 sr5 er5 => h2 ρ5 H5 σ5 ((g3.trans g4).trans g5) sr5 er5
        · rename_i r n1 n2 n3
          cases e5 : m env4 st4 with
          | nx a b => exact absurd e5 (n1 a b)
          | ct a b => exact absurd e5 (n2 a b)
          | bk a b => exact absurd e5 (n3 a b)
          | rt w5 s5 => rw [e5] at h2; exact fun ρ5 H5 v5 g5 sr5 r5 => h2 ρ5 H5 v5 ((g3.trans g4).trans g5) sr5 r5
          | ex x5 a b => rw [e5] at h2; exact fun ρ5 H5 σ5 c5 d5 g5 sr5 er5 xr5 => h2 ρ5 H5 σ5 c5 d5 ((g3.trans g4).trans g5) sr5 er5 xr5
          | stuck => rw [e5] at h2; exact h2
      · exact h2.elim
    · rename_i e
      rw [e] at k
      exact .inl ⟨k, h2.nx sr2 er2⟩
    · exact h2.elim
theorem ss_while {c : Expr} {body : List Stmt} {mc : M Bool} {m : MS} {fuel : Nat} (hp : PassesOwn (model X.prog X.w) X.A X.env X.xe) (hc : STt X T Wx c mc) (hb : SSs X T Wx body m) : SSt X T Wx (.While c body [] pos) (sWhile fuel mc m) := by
  intro ρ η st env σ H D s er q
  refine ⟨_, ps_while hp pt_S pss_S, ?_⟩
  refine ⟨fun n σ' H' => ∃ ρ' st' env', Grow ρ H ρ' H' ∧ SR X.K T ρ' η st' H' ∧ ER X.K ρ' η H' env' σ' ∧ SAfter X.K T η ρ' H' (whileS mc m n env' st') D Wx, ⟨fuel, ρ, st, env, Grow.refl, s, er, q⟩, ?_⟩
  rintro n σ2 H2 ⟨ρ2, st2, env2, g2, sr2, er2, h2⟩
  cases n with
  | zero => exact h2.elim
  | succ n =>
    unfold whileS at h2
    refine hc ρ2 η st2 env2 σ2 H2 _ sr2 er2 (h2.bind er2 fun b s3 ρ3 H3 b' _ g3 sr3 r3 h3 => ?_)
    subst r3
    cases b with
    | false => exact iteF (h3.nx sr3 (er2.mono g3))
    | true =>
      refine iteT ⟨fun σ' H' => ∃ ρ' st' env', Grow ρ H ρ' H' ∧ SR X.K T ρ' η st' H' ∧ ER X.K ρ' η H' env' σ' ∧ SAfter X.K T η ρ' H' (whileS mc m n env' st') D Wx, fun σ' H' z => ⟨n, Nat.lt_succ_self n, z⟩, ?_⟩
      rw [if_pos rfl] at h3
      refine hb ρ3 η s3 env2 σ2 H3 _ sr3 (er2.mono g3) ?_
      split at h3
      · rename_i env5 st5 e5
        rw [e5]
        exact fun ρ5 H5 σ5 g5 sr5 er5 => ⟨ρ5, st5, env5, (g2.trans g3).trans g5, sr5, er5, SAfter.grow g5 h3⟩
      · rename_i env5 st5 e5
        rw [e5]
        exact fun ρ5 H5 σ5 g5 sr5 er5 => ⟨ρ5, st5, env5, (g2.trans g3).trans g5, sr5, er5, SAfter.grow g5 h3⟩
      · rename_i env5 st5 e5
        rw [e5]
        exact fun ρ5 H5 σ5 g5 sr5 er5 => h3 ρ5 H5 σ5 g5 sr5 er5
      · rename_i r n1 n2 n3
        cases e5 : m env2 s3 with
        | nx a b => exact absurd e5 (n1 a b)
        | ct a b => exact absurd e5 (n2 a b)
        | bk a b => exact absurd e5 (n3 a b)
        | rt w5 s5 => rw [e5] at h3; exact h3
        | ex x5 a b => rw [e5] at h3; exact h3
        | stuck => rw [e5] at h3; exact h3
/-! ### sources -/
def iL (m : M W) : MI := fun env st => (m env st).bind fun w s => match w with
  | .lst xs => .ok (fixS xs) s
  | .scr xs => .ok (fixS xs) s
  | .tup xs => .stuck
  | .ref n => match s[n]? with
    | some (.lst xs) => .ok (nodS n xs.length) s
    | _ => .stuck
  | _ => .stuck
def iT (m : M W) : MI := fun env st => (m env st).bind fun w s => match w with
  | .tup xs => .ok (fixS xs) s
  | _ => .stuck
def rngW (lo : Int) (n : Nat) : List W := (List.range n).map fun (i : Nat) => W.int (lo + (i : Int))
def small62 (i : Int) : Bool := decide (i.natAbs < 2 ^ 62)
theorem small62_of {i : Int} (h : small62 i = true) : -(2 ^ 62) ≤ i ∧ i < 2 ^ 62 := by
  simp only [small62, decide_eq_true_eq] at h
  omega
def iR1 (m : M (List W)) : MI := fun env st => (m env st).bind fun ws s => match ws with
  | [.int j] => if small62 j then .ok (fixS (rngW 0 j.toNat)) s else .stuck
  | _ => .stuck
def iR2 (m : M (List W)) : MI := fun env st => (m env st).bind fun ws s => match ws with
  | [.int i, .int j] => if small62 i ∧ small62 j then .ok (fixS (rngW i (j - i).toNat)) s else .stuck
  | _ => .stuck
theorem src_seq {ρ η : List Addr} {H : Hp} {a : Addr} {xs : List W} {vs : List V} (hl : ∀ ρ' H', Grow ρ H ρ' H' → SqL X.K H' a vs) (r : VRs X.K ρ η H xs vs) : SrcOk X.K T ρ η H (fixS xs) (Itl X.K a) := by
  intro η' k i ρ' H' st' g sr
  have q := hl ρ' H' g
  show match some xs[i]? with | some (some w) => _ | some none => _ | none => _
  cases e : xs[i]? with
  | none => exact ⟨vs, q, by rw [r.len]; exact List.getElem?_eq_none_iff.mp e⟩
  | some w =>
    obtain ⟨v, e1, e2⟩ := r.get e
    refine ⟨⟨vs, v, q, e1⟩, fun x H2 y => ?_⟩
    obtain ⟨y1, y2⟩ := y
    subst y1
    have := y2 vs q
    rw [e1] at this
    cases this
    exact ⟨Grow.refl, sr, e2.more g k⟩
theorem lst_at {ρ η : List Addr} {H : Hp} {a : Addr} {vs : List V} (h : a ∉ ρ ∧ a ∉ η ∧ H a = some (.lst vs)) : ∀ ρ' H', Grow ρ H ρ' H' → SqL X.K H' a vs := fun ρ' H' g => SqL.of (g.same _ _ h.1 h.2.2)
theorem src_nod {ρ η : List Addr} {H : Hp} {a : Addr} {n len : Nat} (h : ρ[n]? = some a) : SrcOk X.K T ρ η H (nodS n len) (Itl X.K a) := by
  intro η' k i ρ' H' st' g sr
  show match (match st'[n]? with | some (.lst xs) => some xs[i]? | _ => none) with | some (some w) => _ | some none => _ | none => True
  cases e : st'[n]? with
  | none => trivial
  | some nd =>
    have q := sr.at_ n nd a e (g.at h)
    cases nd with
    | lst xs =>
      obtain ⟨vs, q1, q2⟩ := q
      dsimp only
      cases e2 : xs[i]? with
      | none => exact ⟨vs, SqL.of q1, by rw [q2.len]; exact List.getElem?_eq_none_iff.mp e2⟩
      | some w =>
        obtain ⟨v, e3, e4⟩ := q2.get e2
        refine ⟨⟨vs, v, SqL.of q1, e3⟩, fun x H2 y => ?_⟩
        obtain ⟨y1, y2⟩ := y
        subst y1
        have := y2 vs (SqL.of q1)
        rw [e3] at this
        cases this
        exact ⟨Grow.refl, sr, e4⟩
    | _ => trivial
theorem si_list {tg l : Expr} {m : M W} (h : SE X T Wx l m) : SI X T Wx tg l (iL m) := by
  intro ρ η st env σ H Q s er q
  refine ⟨_, pi_list pe_S, ?_⟩
  refine h ρ η st env σ H _ s er (q.bind fun w s1 ρ1 H1 v g1 sr1 r1 h1 => ?_)
  split at h1
  · rename_i xs
    simp only [VR] at r1
    obtain ⟨a, vs, e1, e2, e3⟩ := r1
    exact ⟨a, e1, ⟨vs, SqL.of e2.2.2⟩, h1.ok sr1 (src_seq (lst_at e2) e3)⟩
  · rename_i xs
    simp only [VR] at r1
    obtain ⟨a, vs, e1, e2, e3⟩ := r1
    exact ⟨a, e1, ⟨vs, e2.sq⟩, h1.ok sr1 (src_seq (fun ρ' H' g => (e2.mono g).sq) e3)⟩
  · exact h1.elim
  · rename_i n
    split at h1
    · rename_i xs e
      obtain ⟨a, e1, e2, vs, e3, e4⟩ := node_at sr1 r1 e
      exact ⟨a, e1, ⟨vs, SqL.of e3⟩, h1.ok sr1 (src_nod e2)⟩
    · exact h1.elim
  · exact h1.elim
theorem si_tup {tg l : Expr} {m : M W} (h : SE X T Wx l m) : SI X T Wx tg l (iT m) := by
  intro ρ η st env σ H Q s er q
  refine ⟨_, pi_tup pe_S, ?_⟩
  refine h ρ η st env σ H _ s er (q.bind fun w s1 ρ1 H1 v g1 sr1 r1 h1 => ?_)
  split at h1
  · rename_i xs
    simp only [VR] at r1
    obtain ⟨a, vs, e1, e2, e3⟩ := r1
    refine ⟨a, e1, ⟨vs, e2.sq⟩, h1.ok sr1 ?_⟩
    intro η' k i ρ' H' st' g sr
    have q : SqT X.K H' a vs := (e2.mono g).sq
    show match some xs[i]? with | some (some w) => _ | some none => _ | none => _
    cases e : xs[i]? with
    | none => exact ⟨vs, q, by rw [e3.len]; exact List.getElem?_eq_none_iff.mp e⟩
    | some w =>
      obtain ⟨v, f1, f2⟩ := e3.get e
      refine ⟨⟨vs, v, q, f1⟩, fun x H2 y => ?_⟩
      obtain ⟨y1, y2⟩ := y
      subst y1
      have := y2 vs q
      rw [f1] at this
      cases this
      exact ⟨Grow.refl, sr, f2.more g k⟩
  · exact h1.elim
theorem src_rng {ρ η : List Addr} {H : Hp} {lo : Int} {n : Nat} : SrcOk X.K T ρ η H (fixS (rngW lo n)) (Itr lo n) := by
  intro η' k i ρ' H' st' g sr
  show match some (rngW lo n)[i]? with | some (some w) => _ | some none => _ | none => _
  unfold rngW
  rw [List.getElem?_map]
  by_cases hi : i < n
  · rw [List.getElem?_eq_getElem (by simpa using hi)]
    simp only [List.getElem_range, Option.map_some]
    refine ⟨hi, fun x H2 y => ?_⟩
    obtain ⟨y1, y2⟩ := y
    subst y1
    exact ⟨Grow.refl, sr, by simp only [VR]; exact y2⟩
  · rw [List.getElem?_eq_none (by simpa using Nat.le_of_not_lt hi)]
    exact Nat.le_of_not_lt hi
theorem si_range1 {tg a : Expr} {m : M (List W)} {p pos : Pos} (hg : Gl X (Str.ofString "range")) (hm : X.mg (Str.ofString "range") = none) (h : SA X T Wx [a] m) (hst : starEach [a] X.env = [(false, eval a X.env)] := by rfl) :
    SI X T Wx tg (.Call (.Name (Str.ofString "range") p) [a] [] pos) (iR1 m) := by
  intro ρ η st env σ H Q s er q
  refine ⟨_, pi_range1 hg hm pa_S hst, ?_⟩
  refine h ρ η st env σ H _ s er (q.bind fun ws s1 ρ1 H1 vs g1 sr1 r1 h1 => ?_)
  split at h1
  · rename_i j
    split at h1
    · rename_i z
      simp only [VRs, VR] at r1
      obtain ⟨v, r, e1, e2, e3⟩ := r1
      subst e2; subst e3
      have z := small62_of z
      exact ⟨j, e1, z.1, z.2, h1.ok sr1 src_rng⟩
    · exact h1.elim
  · exact h1.elim
end
end Mi
namespace Mi
open PySem L2
/-! ### list comprehensions -/
def wipeW (env : Ev) : List Nat → Ev
  | [] => env
  | v :: vs => (wipeW env vs).set v none
/-- what a comprehension binds: a name, or some names at once -/
inductive CT where
  | one (i : Nat) | tup (is : List Nat)
def CT.ix : CT → List Nat
  | .one i => [i]
  | .tup is => is
def setAll : List Nat → List W → Ev → Option Ev
  | [], [], env => some env
  | i :: is, w :: ws, env => setAll is ws (env.set i (some w))
  | _, _, _ => none
def CT.put (t : CT) (w : W) (env : Ev) : Option Ev := match t with
  | .one i => some (env.set i (some w))
  | .tup is => match w with
    | .tup ws => setAll is ws env
    | _ => none
def gNames : List Nat → TGs
  | [] => gNil
  | i :: is => gCons (gName i) (gNames is)
def CT.tg (K : PySem.W.Frag) : CT → TG
  | .one i => gName i
  | .tup is => gTup K is.length (gNames is)
/-- the loop: what was made so far -/
def compS (s : Src) (t : CT) (cond : M Bool) (elt : M W) (env : Ev) : Nat → Nat → List W → Sto → Rs (List W)
  | 0, _, _, _ => .stuck
  | n + 1, i, acc, st => match s.at_ i st with
    | some (some w) => match t.put w env with
      | some env1 => match cond env1 st with
        | .ok true st1 => match elt env1 st1 with
          | .ok v st2 => if acc.length < sizeLine then compS s t cond elt env n (i + 1) (acc ++ [v]) st2 else .stuck
          | _ => .stuck
        | .ok false st1 => compS s t cond elt env n (i + 1) acc st1
        | _ => .stuck
      | none => .stuck
    | some none => .ok acc st
    | none => .stuck
def mComp (fz : Bool) (mi : MI) (vs : List Nat) (t : CT) (cond : M Bool) (elt : M W) : M W := fun env st => (mi env st).bind fun s st1 => (compS s t cond elt (wipeW env vs) s.fuel 0 [] st1).bind fun ws st2 => newL fz ws st2
def mYes : M Bool := fun _ st => .ok true st
def W0 : WX' := fun _ _ _ _ => False
section
variable {K : PySem.W.Frag} {T : Nat → Addr} {ρ ρ' η η' : List Addr} {H H' : Hp} {st : Sto}
theorem ER.wipe {env : Ev} {σ : St} (h : ER K ρ η H env σ) : ∀ vs : List Nat, ER K ρ η H (wipeW env vs) (wipe σ vs)
  | [] => h
  | v :: vs => by
    have k := ER.wipe h vs
    refine ⟨by simp only [wipeW, L2.wipe, List.length_set]; exact k.1, fun j u e => ?_⟩
    unfold wipeW at e
    unfold L2.wipe
    rw [List.getElem?_set] at e ⊢
    split at e
    · split at e <;> cases e
    · rename_i q
      rw [if_neg q]
      exact k.2 j u e
theorem wipe_set {i : Nat} {x : V} : ∀ {vs : List Nat} {σ : St}, i ∈ vs → wipe (σ.set i (some x)) vs = wipe σ vs
  | [], _, h => by simp at h
  | v :: vs, σ, h => by
    unfold wipe
    by_cases e : i ∈ vs
    · rw [wipe_set e]
    · have : i = v := by
        rcases List.mem_cons.mp h with h | h
        · exact h
        · exact absurd h e
      subst this
      have com : ∀ (vs : List Nat) (σ : St), i ∉ vs → wipe (σ.set i (some x)) vs = (wipe σ vs).set i (some x) := by
        intro vs
        induction vs with
        | nil => intro σ _; rfl
        | cons u us ih =>
          intro σ hn
          unfold wipe
          rw [ih σ (fun z => hn (List.mem_cons_of_mem _ z)), List.set_comm]
          rintro rfl
          exact hn List.mem_cons_self
      rw [com vs σ e, List.set_set]
theorem hid_new {D : Addr} (n : H D = none) : Hid η H (D :: η) := ⟨fun _ h => List.mem_cons_of_mem _ h, fun a h => by
  rcases List.mem_cons.mp h with h | h
  · exact .inr (h ▸ n)
  · exact .inl h⟩
theorem ER.more {env : Ev} {σ : St} (g : Grow ρ H ρ' H') (k : Hid η H η') (h : ER K ρ η H env σ) : ER K ρ' η' H' env σ := ⟨h.1, fun i w e => by
  obtain ⟨v, q, r⟩ := h.2 i w e
  exact ⟨v, q, r.more g k⟩⟩
theorem TbR.more {a : Addr} {p : Nat} {q : Str} (g : Grow ρ H ρ' H') (k : Hid η H η') (e : H' a = H a) (h : TbR T ρ η H a p q) : TbR T ρ' η' H' a p q := by
  obtain ⟨e0, ps, h1, h2, h3⟩ := h
  refine ⟨e0, ps, e.trans h1, h2, fun pos cv z => ?_⟩
  obtain ⟨c, c1, c2, c3, c4⟩ := h3 pos cv z
  exact ⟨c, c1, g.out c2 c4, fun y => (k.2 c y).elim c3 fun y => (by rw [y] at c4; cases c4), g.same c _ c2 c4⟩
theorem TbR.hid {D a : Addr} {p : Nat} {q : Str} {o : HO} (n : D ∈ η) (ne : a ≠ D) (h : TbR T ρ η H a p q) : TbR T ρ η (upd H D o) a p q := by
  obtain ⟨e0, ps, h1, h2, h3⟩ := h
  refine ⟨e0, ps, by rw [upd_ne ne]; exact h1, h2, fun pos cv z => ?_⟩
  obtain ⟨c, c1, c2, c3, c4⟩ := h3 pos cv z
  exact ⟨c, c1, c2, c3, by rw [upd_ne (fun y => c3 (by rw [y]; exact n))]; exact c4⟩
theorem TbR.less {a : Addr} {p : Nat} {q : Str} (l : ∀ b ∈ η', b ∈ η) (h : TbR T ρ η H a p q) : TbR T ρ η' H a p q := by
  obtain ⟨e0, ps, h1, h2, h3⟩ := h
  refine ⟨e0, ps, h1, h2, fun pos cv z => ?_⟩
  obtain ⟨c, c1, c2, c3, c4⟩ := h3 pos cv z
  exact ⟨c, c1, c2, fun y => c3 (l c y), c4⟩
theorem TbR.shift {D a : Addr} {p : Nat} {q : Str} (h : TbR T ρ (D :: η) H a p q) : TbR T (ρ ++ [D]) η H a p q := by
  obtain ⟨e0, ps, h1, h2, h3⟩ := h
  refine ⟨e0, ps, h1, h2, fun pos cv z => ?_⟩
  obtain ⟨c, c1, c2, c3, c4⟩ := h3 pos cv z
  simp only [List.mem_cons, not_or] at c3
  exact ⟨c, c1, by simp [c2, c3.1], c3.2, c4⟩
theorem NR.more {a : Addr} {n : Nd} (g : Grow ρ H ρ' H') (k : Hid η H η') (e : H' a = H a) (h : NR K T ρ η H a n) : NR K T ρ' η' H' a n := by
  cases n with
  | lst xs => obtain ⟨vs, z, r⟩ := h; exact ⟨vs, e.trans z, r.more g k⟩
  | dk kvs => obtain ⟨kv, z, q, r⟩ := h; exact ⟨kv, e.trans z, q, r.more g k⟩
  | lk kvs => obtain ⟨od, kv, z, q, r⟩ := h; exact ⟨od, kv, e.trans z, q, r.more g k⟩
  | ins c fs => obtain ⟨dx, fv, z, q, r⟩ := h; exact ⟨dx, fv, e.trans z, q, r.more g k⟩
  | tb p q => exact TbR.more g k e h
/-- a hidden object is made -/
theorem SR.hide {D : Addr} {o : HO} (s : SR K T ρ η st H) (n : H D = none) (po : plO o = true := by rfl) : SR K T ρ (D :: η) st (upd H D o) := by
  refine ⟨s.nd, s.len, fun a ha => ?_, fun a ha => ?_, fun i nd a e q => ?_⟩
  · rcases List.mem_cons.mp ha with h | h
    · rw [h]; exact s.fresh n
    · exact s.hid a h
  · rcases List.mem_cons.mp ha with h | h
    · exact ⟨o, by rw [h, upd_same], po⟩
    · obtain ⟨u, e, pl⟩ := s.has a h
      exact ⟨u, by rw [upd_ne (ne_of_none e n)]; exact e, pl⟩
  · obtain ⟨u, z⟩ := s.there q
    exact (s.at_ i nd a e q).more (Grow.new n) (hid_new n) (upd_ne (ne_of_none z n))
/-- a hidden object changes: what else stands -/
theorem TupAt.hid {a D : Addr} {o : HO} {vs : List V} (n : D ∈ η) (h : TupAt K ρ η H a vs) : TupAt K ρ η (upd H D o) a vs := by
  have := (h.hide (o := o) (.inr n)).less (η' := η) fun b hb => List.mem_cons_of_mem _ hb
  exact this
theorem VR.hid {D : Addr} {o : HO} (n : D ∈ η) {w : W} {v : V} (h : VR K ρ η H w v) : VR K ρ η (upd H D o) w v := (h.hide (o := o) (.inr n)).less fun b hb => List.mem_cons_of_mem _ hb
theorem VRs.hid {D : Addr} {o : HO} (n : D ∈ η) {w : List W} {v : List V} (h : VRs K ρ η H w v) : VRs K ρ η (upd H D o) w v := (h.hide (o := o) (.inr n)).less fun b hb => List.mem_cons_of_mem _ hb
theorem SR.hid' {D : Addr} {o : HO} (n : D ∈ η) (s : SR K T ρ η st H) (po : plO o = true := by rfl) : SR K T ρ η st (upd H D o) := by
  have nr : D ∉ ρ := s.hid D n
  refine ⟨s.nd, s.len, s.hid, fun a ha => ?_, fun i nd a e q => ?_⟩
  · by_cases z : a = D
    · exact ⟨o, by rw [z, upd_same], po⟩
    · obtain ⟨u, e, pl⟩ := s.has a ha
      exact ⟨u, by rw [upd_ne z]; exact e, pl⟩
  · have ne : a ≠ D := fun z => nr (z ▸ List.mem_of_getElem? q)
    have k := s.at_ i nd a e q
    cases nd with
    | lst xs => obtain ⟨vs, z, r⟩ := k; exact ⟨vs, by rw [upd_ne ne]; exact z, r.hid n⟩
    | dk kvs => obtain ⟨kv, z, q, r⟩ := k; exact ⟨kv, by rw [upd_ne ne]; exact z, q, r.hid n⟩
    | lk kvs => obtain ⟨od, kv, z, q, r⟩ := k; exact ⟨od, kv, by rw [upd_ne ne]; exact z, q, r.hid n⟩
    | ins c fs => obtain ⟨dx, fv, z, q, r⟩ := k; exact ⟨dx, fv, by rw [upd_ne ne]; exact z, q, r.hid n⟩
    | tb p q => exact TbR.hid n ne k
/-- an object that was not there at the start changes -/
theorem Grow.hid {D : Addr} {o : HO} (g : Grow ρ H ρ' H') (n : H D = none) (po : nt o = true := by rfl) : Grow ρ H ρ' (upd H' D o) := by
  obtain ⟨t, e, ht⟩ := g.pre
  refine ⟨⟨t, e, ht⟩, fun a u na h nu => ?_, fun a u h nu => ?_, fun a u x h => by rw [upd_ne (ne_of_none h n)]; exact g.frz a u x h⟩
  · rw [upd_ne (ne_of_none h n)]
    exact g.same a u na h nu
  · by_cases z : a = D
    · exact ⟨o, by rw [z, upd_same], po⟩
    · obtain ⟨u', k, nk⟩ := g.all a u h nu
      exact ⟨u', by rw [upd_ne z]; exact k, nk⟩
/-- the hidden object is let go as a list that stands still -/
theorem SR.unhide {D : Addr} (s : SR K T ρ (D :: η) st H) : SR K T ρ η st H := by
  refine ⟨s.nd, s.len, fun a ha => s.hid a (List.mem_cons_of_mem _ ha), fun a ha => s.has a (List.mem_cons_of_mem _ ha), fun i nd a e q => ?_⟩
  have k := s.at_ i nd a e q
  have l : ∀ b ∈ η, b ∈ D :: η := fun b hb => List.mem_cons_of_mem _ hb
  cases nd with
  | lst xs => obtain ⟨vs, z, r⟩ := k; exact ⟨vs, z, r.less l⟩
  | dk kvs => obtain ⟨kv, z, q, r⟩ := k; exact ⟨kv, z, q, r.less l⟩
  | lk kvs => obtain ⟨od, kv, z, q, r⟩ := k; exact ⟨od, kv, z, q, r.less l⟩
  | ins c fs => obtain ⟨dx, fv, z, q, r⟩ := k; exact ⟨dx, fv, z, q, r.less l⟩
  | tb p q => exact TbR.less l k
/-- a hidden one becomes a place -/
theorem TupAt.shift {a D : Addr} {vs : List V} (h : TupAt K ρ (D :: η) H a vs) : TupAt K (ρ ++ [D]) η H a vs := h.imp (fun h => ⟨by
  have := h.2.1
  simp only [List.mem_cons, not_or] at this
  simp [h.1, this.1], fun z => h.2.1 (List.mem_cons_of_mem _ z), h.2.2⟩) id
theorem LstAt.shift {a D : Addr} {vs : List V} (h : LstAt K ρ (D :: η) H a vs) : LstAt K (ρ ++ [D]) η H a vs := h.imp (fun h => ⟨by
  have := h.2.1
  simp only [List.mem_cons, not_or] at this
  simp [h.1, this.1], fun z => h.2.1 (List.mem_cons_of_mem _ z), h.2.2⟩) id
mutual
theorem VR.shift {D : Addr} : ∀ {w : W} {v : V}, VR K ρ (D :: η) H w v → VR K (ρ ++ [D]) η H w v
  | .non, _, h => h
  | .bl _, _, h => h
  | .int _, _, h => h
  | .str _, _, h => h
  | .ty _, _, h => h
  | .at_ _, _, h => h
  | .fn _ _ _ _, _, h => ⟨h.1, h.2.trans GH.shift⟩
  | .ref i, v, h => by
    simp only [VR] at h ⊢
    obtain ⟨a, e, r⟩ := h
    exact ⟨a, by rw [List.getElem?_append_left (List.getElem?_eq_some_iff.mp e).1]; exact e, r⟩
  | .tup xs, v, h => by
    simp only [VR] at h ⊢
    obtain ⟨a, vs, e, t, r⟩ := h
    exact ⟨a, vs, e, t.shift, VRs.shift r⟩
  | .lst xs, v, h => by
    simp only [VR] at h ⊢
    obtain ⟨a, vs, e, ⟨t1, t2, t3⟩, r⟩ := h
    simp only [List.mem_cons, not_or] at t2
    exact ⟨a, vs, e, ⟨by simp [t1, t2.1], t2.2, t3⟩, VRs.shift r⟩
  | .scr xs, v, h => by
    simp only [VR] at h ⊢
    obtain ⟨a, vs, e, t, r⟩ := h
    exact ⟨a, vs, e, t.shift, VRs.shift r⟩
theorem VRs.shift {D : Addr} : ∀ {ws : List W} {vs : List V}, VRs K ρ (D :: η) H ws vs → VRs K (ρ ++ [D]) η H ws vs
  | [], _, h => by simpa only [VRs] using h
  | x :: xs, vs, h => by
    simp only [VRs] at h ⊢
    obtain ⟨v, r, e, h1, h2⟩ := h
    exact ⟨v, r, e, VR.shift h1, VRs.shift h2⟩
end
theorem NR.shift {a D : Addr} {n : Nd} (h : NR K T ρ (D :: η) H a n) : NR K T (ρ ++ [D]) η H a n := by
  cases n with
  | lst xs => obtain ⟨vs, z, r⟩ := h; exact ⟨vs, z, r.shift⟩
  | dk kvs => obtain ⟨kv, z, q, r⟩ := h; exact ⟨kv, z, q, r.shift⟩
  | lk kvs => obtain ⟨od, kv, z, q, r⟩ := h; exact ⟨od, kv, z, q, r.shift⟩
  | ins c fs => obtain ⟨dx, fv, z, q, r⟩ := h; exact ⟨dx, fv, z, q, r.shift⟩
  | tb p q => exact TbR.shift h
theorem SR.shift {D : Addr} {nd : Nd} (s : SR K T ρ (D :: η) st H) (nD : D ∉ η) (k : NR K T (ρ ++ [D]) η H D nd) : SR K T (ρ ++ [D]) η (st ++ [nd]) H := by
  have nr : D ∉ ρ := s.hid D List.mem_cons_self
  refine ⟨?_, by simp [s.len], fun a ha z => ?_, fun a ha => s.has a (List.mem_cons_of_mem _ ha), fun i m a e q => ?_⟩
  · rw [List.nodup_append]
    exact ⟨s.nd, by simp, fun a ha b hb z => by
      rw [List.mem_singleton] at hb
      subst hb; subst z
      exact nr ha⟩
  · rcases List.mem_append.mp z with z | z
    · exact s.hid a (List.mem_cons_of_mem _ ha) z
    · rw [List.mem_singleton] at z
      exact nD (z ▸ ha)
  · by_cases hi : i < st.length
    · rw [List.getElem?_append_left hi] at e
      rw [List.getElem?_append_left (by rw [s.len]; exact hi)] at q
      exact (s.at_ i m a e q).shift
    · have l1 := (List.getElem?_eq_some_iff.mp e).1
      have hi2 : i = st.length := by
        rw [List.length_append, List.length_singleton] at l1
        omega
      subst hi2
      rw [List.getElem?_append_right (Nat.le_refl _)] at e
      rw [List.getElem?_append_right (by rw [s.len]; exact Nat.le_refl _)] at q
      simp at e
      simp [s.len] at q
      subst e; subst q
      exact k
theorem Grow.shift {D : Addr} (g : Grow ρ H ρ' H') (n : H D = none) : Grow ρ H (ρ' ++ [D]) H' := by
  obtain ⟨t, e, ht⟩ := g.pre
  refine ⟨⟨t ++ [D], by rw [e, List.append_assoc], fun a ha => ?_⟩, g.same', g.all, g.frz⟩
  rcases List.mem_append.mp ha with ha | ha
  · exact ht a ha
  · rw [List.mem_singleton] at ha
    rw [ha]; exact ab_of n
theorem gNames_ok {vs : List Nat} : ∀ {is : List Nat} {ws : List W} {us : List V} {env env1 : Ev} {σ : St} {H : Hp} {Q : St → Hp → Prop}, setAll is ws env = some env1 → VRs K ρ η H ws us → ER K ρ η H env σ → (∀ i ∈ is, i ∈ vs) →
    (∀ σ1, ER K ρ η H env1 σ1 → wipe σ1 vs = wipe σ vs → Q σ1 H) → gNames is us σ H Q ∧ us.length = is.length
  | [], [], us, env, env1, σ, H, Q, e, r, er, hv, q => by
    simp only [setAll, Option.some.injEq] at e
    subst e
    simp only [VRs] at r
    subst r
    exact ⟨⟨rfl, q σ er rfl⟩, rfl⟩
  | i :: is, w :: ws, us, env, env1, σ, H, Q, e, r, er, hv, q => by
    simp only [setAll] at e
    simp only [VRs] at r
    obtain ⟨v, rr, e1, r1, r2⟩ := r
    subst e1
    have ih := gNames_ok (Q := Q) e r2 (er.set (i := i) r1) (fun j hj => hv j (List.mem_cons_of_mem _ hj)) fun σ1 e1 e2 => q σ1 e1 (e2.trans (wipe_set (hv i List.mem_cons_self)))
    exact ⟨⟨v, rr, rfl, ih.1⟩, by simp [ih.2]⟩
  | [], w :: ws, us, env, env1, σ, H, Q, e, r, er, hv, q => by simp [setAll] at e
  | i :: is, [], us, env, env1, σ, H, Q, e, r, er, hv, q => by simp [setAll] at e
theorem ct_ok {vs : List Nat} {t : CT} {w : W} {v : V} {env env1 : Ev} {σ : St} {H : Hp} {Q : St → Hp → Prop} (e : t.put w env = some env1) (r : VR K ρ η H w v) (er : ER K ρ η H env σ) (hv : ∀ i ∈ t.ix, i ∈ vs)
    (q : ∀ σ1, ER K ρ η H env1 σ1 → wipe σ1 vs = wipe σ vs → Q σ1 H) : t.tg K v σ H Q := by
  cases t with
  | one i =>
    simp only [CT.put, Option.some.injEq] at e
    subst e
    exact q _ (er.set r) (wipe_set (hv i (by simp [CT.ix])))
  | tup is =>
    simp only [CT.put] at e
    split at e
    · rename_i ws
      simp only [VR] at r
      obtain ⟨a, us, e1, e2, e3⟩ := r
      obtain ⟨h1, h2⟩ := gNames_ok (vs := vs) e e3 er hv q
      exact ⟨a, us, e1, e2.sq, h2, h1⟩
    · cases e
end
section
variable {X : Cx} {T : Nat → Addr} {Wx : WX'} {pos : Pos}
theorem wipe_wipe {σ : St} : ∀ {vs : List Nat}, wipe (wipe σ vs) vs = wipe σ vs := by
  intro vs
  have gt : ∀ (us : List Nat) (σ : St) (j : Nat), (wipe σ us)[j]? = if j ∈ us then (if j < σ.length then some none else none) else σ[j]? := by
    intro us
    induction us with
    | nil => intro σ j; simp [wipe]
    | cons u us ih =>
      intro σ j
      unfold wipe
      rw [List.getElem?_set, wipe_length, ih]
      by_cases e : u = j
      · subst e
        simp
      · have e2 : ¬ j = u := fun z => e z.symm
        rw [if_neg e]
        simp [e2]
  apply List.ext_getElem?
  intro j
  rw [gt, gt, wipe_length]
  split <;> rfl
/-- an expression that is read by t alone -/
def SEt (X : Cx) (T : Nat → Addr) (Wx : WX') (t : TE) (m : M W) : Prop := ∀ ρ η st env σ H Q, SR X.K T ρ η st H → ER X.K ρ η H env σ → After X.K T η (fun ρ H => VR X.K ρ η H) ρ H (m env st) Q (fun c d H' => Wx c d σ H') → t σ H Q
theorem se_T {e : Expr} {t : TE} {m : M W} (h : SEt X T Wx t m) (hp : PE X e t) : SE X T Wx e m := fun ρ η st env σ H Q s er q => ⟨t, hp, h ρ η st env σ H Q s er q⟩
theorem ss_setT {i : Nat} {c : Stmt} {t : TE} {m : M W} (h : SEt X T Wx t m) (hp : PS X c (tAsg t (gName i))) : SSt X T Wx c (sAsg m (gName' i)) := by
  intro ρ η st env σ H D s er q
  refine ⟨_, hp, ?_⟩
  exact h ρ η st env σ H _ s er (q.bind er fun w s1 ρ1 H1 v _ g1 sr1 r1 h2 => h2 ρ1 H1 _ Grow.refl sr1 ((er.mono g1).set r1))
theorem comp_T {fz : Bool} {elt tg iter : Expr} {ifs : List Expr} {scope : Scope} {own : List (Str × Nat)} {mi : MI} {t : CT} {cond : M Bool} {m : M W} (hi : SI X T Wx tg iter mi)
    (hv : ∀ i ∈ t.ix, i ∈ own.map (fun p : Str × Nat => p.2))
    (ht : (ifs = [] ∧ cond = mYes) ∨ ∃ c, ifs = [c] ∧ ∀ (s : Shared) (H : Hp) (C : Addr) (cl : List (Str × Addr)) (fp : List Addr), STt (X.blk s H scope (compEnvC scope cl C X.env) fp) T W0 c cond)
    (he : ∀ (s : Shared) (H : Hp) (C : Addr) (cl : List (Str × Addr)) (fp : List Addr), SE (X.blk s H scope (compEnvC scope cl C X.env) fp) T W0 elt m) :
    ∃ tt te, (∀ (s : Shared) (H : Hp) (C : Addr) (cl : List (Str × Addr)) (fp : List Addr), PTs (X.blk s H scope (compEnvC scope cl C X.env) fp) ifs tt) ∧
      (∀ (s : Shared) (H : Hp) (C : Addr) (cl : List (Str × Addr)) (fp : List Addr), PE (X.blk s H scope (compEnvC scope cl C X.env) fp) elt te) ∧
      SEt X T Wx (tLc (tSI X tg iter) (t.tg X.K) tt te (own.map (fun p : Str × Nat => p.2))) (mComp fz mi (own.map (fun p : Str × Nat => p.2)) t cond m) := by
  -- the test and the element, by what they do in each block
  let tt : TT := fun σ H Q => ∀ (s : Shared) (G : Hp) (C : Addr) (cl : List (Str × Addr)) (fp : List Addr), (∃ u, PTs (X.blk s G scope (compEnvC scope cl C X.env) fp) ifs u ∧ u σ H Q)
  let te : TE := fun σ H Q => ∀ (s : Shared) (G : Hp) (C : Addr) (cl : List (Str × Addr)) (fp : List Addr), (∃ u, PE (X.blk s G scope (compEnvC scope cl C X.env) fp) elt u ∧ u σ H Q)
  refine ⟨tt, te, fun s G C cl fp => ⟨fun pins s' σ' H' Q' I h => ?_⟩, fun s G C cl fp => ⟨fun pins s' σ' H' Q' I h => ?_⟩, ?_⟩
  · obtain ⟨u, h1, h2⟩ := h s G C cl fp
    exact h1.run pins s' σ' H' Q' I h2
  · obtain ⟨u, h1, h2⟩ := h s G C cl fp
    exact h1.run pins s' σ' H' Q' I h2
  intro ρ η st env σ H Q s er q
  refine hi ρ η st env σ H _ s er (q.bind fun src s1 ρ1 H1 J g1 sr1 ok1 h1 => ?_)
  intro D hD
  have D1 : Hid η H1 (D :: η) := hid_new hD
  have er0 : ER X.K ρ1 η H1 (wipeW env (own.map (fun p : Str × Nat => p.2))) (wipe σ (own.map (fun p : Str × Nat => p.2))) := (er.mono g1).wipe _
  refine ⟨fun (i n : Nat) (H' : Hp) => ∃ (ρ' : List Addr) (st' : Sto) (acc : List W) (accv : List V), Grow ρ1 H1 ρ' H' ∧ SR X.K T ρ' (D :: η) st' H' ∧ H' D = some (.lst accv) ∧ VRs X.K ρ' (D :: η) H' acc accv ∧
      After X.K T η (fun ρ H => VR X.K ρ η H) ρ1 H1 ((compS src t cond m (wipeW env (own.map (fun p : Str × Nat => p.2))) n i acc st').bind fun ws st2 => newL fz ws st2) Q (fun c d H' => Wx c d σ H'), ⟨src.fuel, ρ1, s1, [], [], Grow.new hD, sr1.hide hD, upd_same, VRs.nil, h1⟩, ?_⟩
  rintro i n H2 ⟨ρ2, st2, acc, accv, g2, sr2, hD2, rac, h2⟩
  cases n with
  | zero => exact h2.elim
  | succ n =>
    have k := ok1 (D :: η) D1 i ρ2 H2 st2 g2 sr2
    unfold compS at h2
    split at h2
    · rename_i w e
      rw [e] at k
      obtain ⟨k1, k2⟩ := k
      refine .inr ⟨k1, fun (H' : Hp) => ∃ (ρ' : List Addr) (st' : Sto) (acc : List W) (accv : List V), Grow ρ1 H1 ρ' H' ∧ SR X.K T ρ' (D :: η) st' H' ∧ H' D = some (.lst accv) ∧ VRs X.K ρ' (D :: η) H' acc accv ∧
        After X.K T η (fun ρ H => VR X.K ρ η H) ρ1 H1 ((compS src t cond m (wipeW env (own.map (fun p : Str × Nat => p.2))) n (i + 1) acc st').bind fun ws st2 => newL fz ws st2) Q (fun c d H' => Wx c d σ H'), fun H' z => ⟨n, Nat.lt_succ_self n, z⟩, fun x H3 y => ?_⟩
      obtain ⟨g3, sr3, r3⟩ := k2 x H3 y
      have hD3 : H3 D = some (.lst accv) := g3.same D _ (sr2.hid D List.mem_cons_self) hD2
      split at h2
      · rename_i env4 e4
        refine ct_ok (vs := own.map (fun p : Str × Nat => p.2)) e4 r3 (er0.more (g2.trans g3) D1) hv fun σ4 er4 w4 => ?_
        rw [wipe_wipe] at w4
        refine ⟨w4, ?_⟩
        -- the test
        have step : ∀ (b : Bool) (st5 : Sto) (ρ5 : List Addr) (H5 : Hp), Grow ρ2 H3 ρ5 H5 → SR X.K T ρ5 (D :: η) st5 H5 →
            After X.K T η (fun ρ H => VR X.K ρ η H) ρ1 H1 ((match b with
              | true => (match m env4 st5 with
                | .ok v st2 => if acc.length < sizeLine then compS src t cond m (wipeW env (own.map (fun p : Str × Nat => p.2))) n (i + 1) (acc ++ [v]) st2 else .stuck
                | _ => .stuck)
              | false => compS src t cond m (wipeW env (own.map (fun p : Str × Nat => p.2))) n (i + 1) acc st5).bind fun ws st2 => newL fz ws st2) Q (fun c d H' => Wx c d σ H') →
            (if b = true then te σ4 H5 fun y H4 => ∃ acc, H4 D = some (.lst acc) ∧ acc.length < sizeLine ∧ (∃ (ρ' : List Addr) (st' : Sto) (acc' : List W) (accv : List V), Grow ρ1 H1 ρ' (upd H4 D (.lst (acc ++ [y]))) ∧ SR X.K T ρ' (D :: η) st' (upd H4 D (.lst (acc ++ [y]))) ∧ (upd H4 D (.lst (acc ++ [y]))) D = some (.lst accv) ∧ VRs X.K ρ' (D :: η) (upd H4 D (.lst (acc ++ [y]))) acc' accv ∧
              After X.K T η (fun ρ H => VR X.K ρ η H) ρ1 H1 ((compS src t cond m (wipeW env (own.map (fun p : Str × Nat => p.2))) n (i + 1) acc' st').bind fun ws st2 => newL fz ws st2) Q (fun c d H' => Wx c d σ H'))
            else ∃ (ρ' : List Addr) (st' : Sto) (acc : List W) (accv : List V), Grow ρ1 H1 ρ' H5 ∧ SR X.K T ρ' (D :: η) st' H5 ∧ H5 D = some (.lst accv) ∧ VRs X.K ρ' (D :: η) H5 acc accv ∧
              After X.K T η (fun ρ H => VR X.K ρ η H) ρ1 H1 ((compS src t cond m (wipeW env (own.map (fun p : Str × Nat => p.2))) n (i + 1) acc st').bind fun ws st2 => newL fz ws st2) Q (fun c d H' => Wx c d σ H')) := by
          intro b st5 ρ5 H5 g5 sr5 h5
          have hD5 : H5 D = some (.lst accv) := g5.same D _ (sr3.hid D List.mem_cons_self) hD3
          have gA : Grow ρ1 H1 ρ5 H5 := (g2.trans g3).trans g5
          cases b with
          | false => exact iteF ⟨ρ5, st5, acc, accv, gA, sr5, hD5, (rac.mono g3).mono g5, h5⟩
          | true =>
            refine iteT ?_
            intro s' G C cl fp
            refine he s' G C cl fp ρ5 (D :: η) st5 env4 σ4 H5 _ sr5 (er4.mono g5) ?_
            dsimp only at h5
            cases e6 : m env4 st5 with
            | ok v st6 =>
              rw [e6] at h5
              dsimp only at h5
              split at h5
              · rename_i lz
                intro ρ6 H6 y g6 sr6 r6
                have hD6 : H6 D = some (.lst accv) := g6.same D _ (sr5.hid D List.mem_cons_self) hD5
                have rac6 : VRs X.K ρ6 (D :: η) H6 acc accv := ((rac.mono g3).mono g5).mono g6
                refine ⟨accv, hD6, by rw [rac6.len]; exact lz, ρ6, st6, acc ++ [v], accv ++ [y], (gA.trans g6).hid hD, sr6.hid' List.mem_cons_self, upd_same, ?_, h5⟩
                exact (rac6.hid List.mem_cons_self).append (VRs.cons (r6.hid List.mem_cons_self) VRs.nil)
              · exact h5.elim
            | ex x s' => rw [e6] at h5; exact h5.elim
            | stuck => rw [e6] at h5; exact h5.elim
        rcases ht with ⟨z1, z2⟩ | ⟨c, z1, z2⟩
        · subst z2
          intro s' G C cl fp
          refine ⟨tYes, by rw [z1]; exact pts_nil, ?_⟩
          exact step true st2 ρ2 H3 Grow.refl sr3 h2
        · intro s' G C cl fp
          obtain ⟨u, hu1, hu2⟩ := z2 s' G C cl fp ρ2 (D :: η) st2 env4 σ4 H3 (fun (b : Bool) (H3 : Hp) => if b = true then te σ4 H3 fun y H4 => ∃ acc, H4 D = some (.lst acc) ∧ acc.length < sizeLine ∧ (∃ (ρ' : List Addr) (st' : Sto) (acc' : List W) (accv : List V), Grow ρ1 H1 ρ' (upd H4 D (.lst (acc ++ [y]))) ∧ SR X.K T ρ' (D :: η) st' (upd H4 D (.lst (acc ++ [y]))) ∧ (upd H4 D (.lst (acc ++ [y]))) D = some (.lst accv) ∧ VRs X.K ρ' (D :: η) (upd H4 D (.lst (acc ++ [y]))) acc' accv ∧
              After X.K T η (fun ρ H => VR X.K ρ η H) ρ1 H1 ((compS src t cond m (wipeW env (own.map (fun p : Str × Nat => p.2))) n (i + 1) acc' st').bind fun ws st2 => newL fz ws st2) Q (fun c d H' => Wx c d σ H'))
            else ∃ (ρ' : List Addr) (st' : Sto) (acc : List W) (accv : List V), Grow ρ1 H1 ρ' H3 ∧ SR X.K T ρ' (D :: η) st' H3 ∧ H3 D = some (.lst accv) ∧ VRs X.K ρ' (D :: η) H3 acc accv ∧
              After X.K T η (fun ρ H => VR X.K ρ η H) ρ1 H1 ((compS src t cond m (wipeW env (own.map (fun p : Str × Nat => p.2))) n (i + 1) acc st').bind fun ws st2 => newL fz ws st2) Q (fun c d H' => Wx c d σ H')) sr3 er4 (by
            cases e6 : cond env4 st2 with
            | ok b st6 =>
              rw [e6] at h2
              intro ρ6 H6 b' g6 sr6 r6
              subst r6
              refine step b st6 ρ6 H6 g6 sr6 ?_
              cases b <;> exact h2
            | ex x s' => rw [e6] at h2; exact h2.elim
            | stuck => rw [e6] at h2; exact h2.elim)
          exact ⟨u, by rw [z1]; exact pts_one hu1, hu2⟩
      · exact h2.elim
    · rename_i e
      rw [e] at k
      refine .inl ⟨k, ?_⟩
      have h2 : After X.K T η (fun ρ H => VR X.K ρ η H) ρ1 H1 (newL fz acc st2) Q (fun c d H' => Wx c d σ H') := h2
      unfold newL at h2
      have l : ∀ b ∈ η, b ∈ D :: η := fun b hb => List.mem_cons_of_mem _ hb
      have nD : D ∉ η := fun z => by
        obtain ⟨o, e, _⟩ := sr1.has D z
        rw [hD] at e; cases e
      cases fz with
      | true =>
        refine h2 ρ2 H2 _ g2 sr2.unhide ?_
        simp only [VR]
        exact ⟨D, accv, rfl, ⟨sr2.hid D List.mem_cons_self, nD, hD2⟩, rac.less l⟩
      | false =>
        refine h2 (ρ2 ++ [D]) H2 _ (g2.shift hD) (sr2.shift nD ⟨accv, hD2, rac.shift⟩) ?_
        simp only [VR]
        exact ⟨D, by rw [← sr2.len, List.getElem?_append_right (Nat.le_refl _)]; simp, rfl⟩
    · exact h2.elim
theorem se_comp {fz : Bool} {elt tg iter : Expr} {ifs : List Expr} {scope : Scope} {own : List (Str × Nat)} {mi : MI} {t : CT} {cond : M Bool} {m : M W} (hc : X.calm = true) (hN : X.N.Nodup) (hi : SI X T Wx tg iter mi) (ok : BlkOk X.N X.env.scope scope own)
    (hv : ∀ i ∈ t.ix, i ∈ own.map (fun p : Str × Nat => p.2))
    (hg : ∀ (s : Shared) (H : Hp) (C : Addr) (cl : List (Str × Addr)) (fp : List Addr), PG (X.blk s H scope (compEnvC scope cl C X.env) fp) tg (t.tg X.K))
    (ht : (ifs = [] ∧ cond = mYes) ∨ ∃ c, ifs = [c] ∧ ∀ (s : Shared) (H : Hp) (C : Addr) (cl : List (Str × Addr)) (fp : List Addr), STt (X.blk s H scope (compEnvC scope cl C X.env) fp) T W0 c cond)
    (he : ∀ (s : Shared) (H : Hp) (C : Addr) (cl : List (Str × Addr)) (fp : List Addr), SE (X.blk s H scope (compEnvC scope cl C X.env) fp) T W0 elt m) (hs : ∀ x, foldedSetIterable iter X.env x = pure x := by intro _; rfl) :
    SE X T Wx (.ListComp elt [⟨tg, iter, ifs, 0⟩] scope pos) (mComp fz mi (own.map (fun p : Str × Nat => p.2)) t cond m) := by
  obtain ⟨tt, te, h1, h2, h3⟩ := comp_T (fz := fz) (own := own) (Wx := Wx) hi hv ht he
  exact se_T h3 (pe_lc hc hN pi_S ok hg h1 h2 hs)
/-- name = [..], the name not read within another block -/
theorem ss_comp {fz : Bool} {i : Nat} {y : Str} {py spos : Pos} {elt tg iter : Expr} {ifs : List Expr} {scope : Scope} {own : List (Str × Nat)} {mi : MI} {t : CT} {cond : M Bool} {m : M W} (hc : X.calm = true) (hN : X.N.Nodup) (hy : X.N[i]? = some y) (hyl : X.env.scope.names.lookup y = some .local)
    (hsw : swapsWith (.ListComp elt [⟨tg, iter, ifs, 0⟩] scope pos) (some (.Name y py)) spos.line X.env = pure true) (hi : SI X T Wx tg iter mi) (ok : BlkOk X.N X.env.scope scope own)
    (hv : ∀ i ∈ t.ix, i ∈ own.map (fun p : Str × Nat => p.2))
    (hg : ∀ (s : Shared) (H : Hp) (C : Addr) (cl : List (Str × Addr)) (fp : List Addr), PG (X.blk s H scope (compEnvC scope cl C X.env) fp) tg (t.tg X.K))
    (ht : (ifs = [] ∧ cond = mYes) ∨ ∃ c, ifs = [c] ∧ ∀ (s : Shared) (H : Hp) (C : Addr) (cl : List (Str × Addr)) (fp : List Addr), STt (X.blk s H scope (compEnvC scope cl C X.env) fp) T W0 c cond)
    (he : ∀ (s : Shared) (H : Hp) (C : Addr) (cl : List (Str × Addr)) (fp : List Addr), SE (X.blk s H scope (compEnvC scope cl C X.env) fp) T W0 elt m) (hs : ∀ x, foldedSetIterable iter X.env x = pure x := by intro _; rfl) :
    SSt X T Wx (.Assign [.Name y py] (.ListComp elt [⟨tg, iter, ifs, 0⟩] scope pos) spos) (sAsg (mComp fz mi (own.map (fun p : Str × Nat => p.2)) t cond m) (gName' i)) := by
  obtain ⟨tt, te, h1, h2, h3⟩ := comp_T (fz := fz) (own := own) (Wx := Wx) hi hv ht he
  exact ss_setT h3 (ps_setLc hc hN hy hyl hsw pi_S ok hg h1 h2 hs)
end
end Mi
namespace Mi
open PySem L2
/-- what a def does: from its arguments and the store -/
abbrev RunM := List W → Sto → Rs W
/-- the promise of a def that does what run does -/
def spM (K : PySem.W.Frag) (T : Nat → Addr) (n : Nat) (run : RunM) : Sp := fun vs H Q E => ∃ ρ η st ws, SR K T ρ η st H ∧ VRs K ρ η H ws vs ∧ ws.length = n ∧ After K T η (fun ρ H => VR K ρ η H) ρ H (run ws st) Q E
theorem spM_len {K : PySem.W.Frag} {T : Nat → Addr} {n : Nat} {run : RunM} : ∀ vs H Q E, spM K T n run vs H Q E → vs.length = n := fun vs H Q E ⟨_, _, _, _, _, r, l, _⟩ => by rw [r.len, l]
abbrev FnM (P : Program) (w : World) (K : PySem.W.Frag) (mg : Str → Option Value) (base : Heap) (T : Nat → Addr) (k : Nat) (f : Addr) (fd : FuncData) (ps : List Str) (run : RunM) : Prop :=
  FnOk P w K mg base (L2.CX P w) k f fd ps (spM K T ps.length run)
def mCall (run : RunM) (m : M (List W)) : M W := fun env st => (m env st).bind run
def mMeth (tb : List (Nat × RunM)) (m : Str) (mo : M W) (ma : M (List W)) : M W := fun env st => (mo env st).bind fun o s1 => match o with
  | .ref i => match s1[i]? with
    | some (.ins c fs) => match fs.lookup m, tb.lookup c with
      | none, some run => (ma env s1).bind fun ws s2 => run (o :: ws) s2
      | _, _ => .stuck
    | _ => .stuck
  | _ => .stuck
def mMake (c : Nat) (run : RunM) (m : M (List W)) : M W := fun env st => (m env st).bind fun ws s1 => (run (.ref s1.length :: ws) (s1 ++ [.ins c []])).bind fun v s2 => match v with
  | .non => .ok (.ref s1.length) s2
  | _ => .stuck
/-- an argument list by its own count -/
structure SAn (X : Cx) (T : Nat → Addr) (Wx : WX') (n : Nat) (es : List Expr) (m : M (List W)) : Prop where
  run : SA X T Wx es m
  len : ArgLen n m
theorem san_nil {X : Cx} {T : Nat → Addr} {Wx : WX'} : SAn X T Wx 0 [] mNil := ⟨sa_nil, len_nil⟩
theorem san_cons {X : Cx} {T : Nat → Addr} {Wx : WX'} {n : Nat} {e : Expr} {es : List Expr} {m : M W} {k : M (List W)} (he : SE X T Wx e m) (hs : SAn X T Wx n es k) (hst : starEach (e :: es) X.env = (false, eval e X.env) :: starEach es X.env := by rfl) : SAn X T Wx (n + 1) (e :: es) (mCons m k) := ⟨sa_cons he hs.run hst, len_cons hs.len⟩
section
variable {X : Cx} {T : Nat → Addr} {Wx : WX'} {pos p apos : Pos} {k : Nat} {f : Addr} {fd : FuncData} {ps : List Str} {run : RunM} {x m : Str} {e o : Expr} {es : List Expr} {ma : M (List W)}
/-- the state behind the arguments is what the callee wants -/
theorem sp_of {ρ η : List Addr} {H : Hp} {st : Sto} {ws : List W} {vs : List V} {n : Nat} {Q : VK} {E : XK} (s : SR X.K T ρ η st H) (r : VRs X.K ρ η H ws vs) (l : ws.length = n) (h : After X.K T η (fun ρ H => VR X.K ρ η H) ρ H (run ws st) Q E) : spM X.K T n run vs H Q E := ⟨ρ, η, st, ws, s, r, l, h⟩
theorem se_call (F : FnM X.prog X.w X.K X.mg X.base T k f fd ps run) (hr : Room k X.A) (tk : Takes X Wx) (hg : Gl X x) (hm : X.mg x = some (.ref f)) (hk : PySem.W.keepIn X.K (.ref f) = true) (hb : Binds X.K fd ps [])
    (ha : SAn X T Wx ps.length (e :: es) ma) (hdb : (x == ("__debug__" : Str)) = false := by decide) (he : starEach (e :: es) X.env = (false, eval e X.env) :: starEach es X.env := by rfl) (hpl : (backTo pos (starEach es X.env)).any (·.1) = false := by rfl) :
    SE X T Wx (.Call (.Name x p) (e :: es) [] pos) (mCall run ma) := by
  intro ρ η st env σ H Q s er q
  refine ⟨_, pe_callS (E := WE Wx) F hr hg hm hk hb (fun σ => passAt tk σ) pa_S hdb he hpl, ?_⟩
  refine ha.run ρ η st env σ H _ s er (After.bindE q fun ws s1 ρ1 H1 vs e1 g1 sr1 r1 h1 => ?_)
  exact sp_of sr1 r1 (ha.len env st ws s1 e1) h1
/-- a method of an own class -/
structure MethM (X : Cx) (T : Nat → Addr) (k : Nat) (m : Str) (n : Nat) (c : Nat) (run : RunM) : Prop where
  cls : Cls X.K (T c)
  ex : ∃ f fd ps, Meth X.K (T c) m f ∧ FnM X.prog X.w X.K X.mg X.base T k f fd ps run ∧ Binds X.K fd ps [] ∧ ps.length = n + 1
theorem tb_mem : ∀ {tb : List (Nat × RunM)} {c : Nat} {r : RunM}, tb.lookup c = some r → (c, r) ∈ tb
  | [], _, _, h => by simp at h
  | (a, b) :: tb, c, r, h => by
    rw [List.lookup_cons] at h
    split at h
    · rename_i z
      cases h
      rw [beq_iff_eq] at z
      subst z
      exact List.mem_cons_self
    · exact List.mem_cons_of_mem _ (tb_mem h)
theorem se_meth {n : Nat} {pl : Sem Bool} {tb : List (Nat × RunM)} {mo : M W} (ho : SE X T Wx o mo) (ht : ∀ p ∈ tb, MethM X T k m n p.1 p.2) (hr : Room k X.A) (tk : Takes X Wx) (ha : SAn X T Wx n (e :: es) ma)
    (hst : starEach (e :: es) X.env = (false, eval e X.env) :: starEach es X.env := by rfl) (hpl : (backTo pos (starEach es X.env)).any (·.1) = false := by rfl)
    (hev : eval (.Call (.Attribute o m apos) (e :: es) [] pos) X.env = (do
      let ov ← eval o X.env
      standAt apos.atName
      let q ← holding [ov] (getMethod ov m pl)
      callWith pos q.1 q.2 (backTo pos (starEach (e :: es) X.env)) (backToKw pos (keywordEach [] X.env))) := by rfl) :
    SE X T Wx (.Call (.Attribute o m apos) (e :: es) [] pos) (mMeth tb m mo ma) := by
  intro ρ η st env σ H Q s er q
  refine ⟨fun σ' H' Q' => tS X o σ' H' fun x H1 => ∃ a c dx fs run, x = .ref a ∧ H1 a = some (.ins (T c) dx fs) ∧ fs.lookup m = none ∧ MethM X T k m n c run ∧ tSA X (e :: es) σ' H1 fun vs H2 => spM X.K T (n + 1) run (x :: vs) H2 Q' (WE Wx σ'), ⟨fun pins s' σ' H' Q' I h => ?_⟩, ?_⟩
  · refine PySem.W.methodCall_KW (pl := pl) (thn (pe_S.run pins s' σ' H' _ I h) fun u s1 ⟨x, H1, I1, rx, a, c, dx, fs, run, ex, ea, l, mm, q1⟩ => ?_) hev
    subst ex
    obtain rfl : u = Value.ref a := rx
    obtain ⟨cl, g, gd, gs, hme, F, hb, hl⟩ := mm
    refine getmeth_ok I1 ea cl hme l ?_
    refine PySem.W.callWith_K (first := [.ref a]) (h₀ := X.base) I.ok.mod.kin hme.kp (thn (pa_S.run pos pins s1 σ' H1 _ I1 q1) fun us s2 ⟨vs, H2, I2, r, q2⟩ => ⟨I2.kIn, ?_⟩) hst hpl
    exact run_fnS (us := .ref a :: us) (vs := .ref a :: vs) (E := WE Wx) F hr hb (passAt tk σ') I2 (.cons rfl r) (by rw [hl]; exact q2)
  · refine ho ρ η st env σ H _ s er (q.bind fun w s1 ρ1 H1 v g1 sr1 r1 h1 => ?_)
    split at h1
    · rename_i i
      split at h1
      · rename_i c fs e1
        split at h1
        · rename_i run e2 e3
          obtain ⟨a, f1, _, dx, fv, f2, f3, f4⟩ := node_at sr1 r1 e1
          refine ⟨a, c, dx, fv, run, f1, f2, ?_, ht (c, run) (tb_mem e3), ?_⟩
          · have : ∀ {fs : List (Str × W)} {fv : List (Str × V)}, fv.map (·.1) = fs.map (·.1) → fs.lookup m = none → fv.lookup m = none := by
              intro fs
              induction fs with
              | nil => intro fv h _; simp at h; subst h; rfl
              | cons p fs ih =>
                intro fv h z
                cases fv with
                | nil => simp at h
                | cons q fv =>
                  obtain ⟨a1, b1⟩ := p
                  obtain ⟨a2, b2⟩ := q
                  simp only [List.map_cons, List.cons.injEq] at h
                  obtain ⟨h1, h2⟩ := h
                  subst h1
                  rw [List.lookup_cons] at z ⊢
                  split at z
                  · cases z
                  · exact ih h2 z
            exact this f3 e2
          · refine ha.run ρ1 η s1 env σ H1 _ sr1 (er.mono g1) (After.bindE h1 fun ws s2 ρ2 H2 vs q2 g2 sr2 r2 h2 => ?_)
            exact sp_of (ws := .ref i :: ws) sr2 (VRs.cons (r1.mono g2) r2) (by rw [List.length_cons, ha.len env s1 ws s2 q2]) h2
        · exact h1.elim
      · exact h1.elim
    · exact h1.elim
theorem se_meth0 {pl : Sem Bool} {tb : List (Nat × RunM)} {mo : M W} (ho : SE X T Wx o mo) (ht : ∀ p ∈ tb, MethM X T k m 0 p.1 p.2) (hr : Room k X.A) (tk : Takes X Wx)
    (hev : eval (.Call (.Attribute o m apos) [] [] pos) X.env = (do
      let ov ← eval o X.env
      standAt apos.atName
      let q ← holding [ov] (getMethod ov m pl)
      callWith pos q.1 q.2 (backTo pos (starEach [] X.env)) (backToKw pos (keywordEach [] X.env))) := by rfl) :
    SE X T Wx (.Call (.Attribute o m apos) [] [] pos) (mMeth tb m mo mNil) := by
  intro ρ η st env σ H Q s er q
  refine ⟨fun σ' H' Q' => tS X o σ' H' fun x H1 => ∃ a c dx fs run, x = .ref a ∧ H1 a = some (.ins (T c) dx fs) ∧ fs.lookup m = none ∧ MethM X T k m 0 c run ∧ spM X.K T 1 run [x] H1 Q' (WE Wx σ'), ⟨fun pins s' σ' H' Q' I h => ?_⟩, ?_⟩
  · refine PySem.W.methodCall_KW (pl := pl) (thn (pe_S.run pins s' σ' H' _ I h) fun u s1 ⟨x, H1, I1, rx, a, c, dx, fs, run, ex, ea, l, mm, q1⟩ => ?_) hev
    subst ex
    obtain rfl : u = Value.ref a := rx
    obtain ⟨cl, g, gd, gs, hme, F, hb, hl⟩ := mm
    refine getmeth_ok I1 ea cl hme l ?_
    exact PySem.W.callWith_K0 (first := [.ref a]) I1.kIn hme.kp (run_fnS (us := [.ref a]) (vs := [.ref a]) (E := WE Wx) F hr hb (passAt tk σ') I1 (.cons rfl .nil) (by rw [hl]; exact q1))
  · refine ho ρ η st env σ H _ s er (q.bind fun w s1 ρ1 H1 v g1 sr1 r1 h1 => ?_)
    split at h1
    · rename_i i
      split at h1
      · rename_i c fs e1
        split at h1
        · rename_i run e2 e3
          obtain ⟨a, f1, _, dx, fv, f2, f3, f4⟩ := node_at sr1 r1 e1
          refine ⟨a, c, dx, fv, run, f1, f2, ?_, ht (c, run) (tb_mem e3), ?_⟩
          · have : ∀ {fs : List (Str × W)} {fv : List (Str × V)}, fv.map (·.1) = fs.map (·.1) → fs.lookup m = none → fv.lookup m = none := by
              intro fs
              induction fs with
              | nil => intro fv h _; simp at h; subst h; rfl
              | cons p fs ih =>
                intro fv h z
                cases fv with
                | nil => simp at h
                | cons q fv =>
                  obtain ⟨a1, b1⟩ := p
                  obtain ⟨a2, b2⟩ := q
                  simp only [List.map_cons, List.cons.injEq] at h
                  obtain ⟨h1, h2⟩ := h
                  subst h1
                  rw [List.lookup_cons] at z ⊢
                  split at z
                  · cases z
                  · exact ih h2 z
            exact this f3 e2
          · exact sp_of (ws := [.ref i]) sr1 (VRs.cons r1 VRs.nil) rfl h1
        · exact h1.elim
      · exact h1.elim
    · exact h1.elim
/-- a new instance, ahead of its __init__ -/
theorem make_ok {ρ η : List Addr} {H : Hp} {st : Sto} {ws : List W} {vs : List V} {n c : Nat} {Q : VK} {E : XK} (s : SR X.K T ρ η st H) (r : VRs X.K ρ η H ws vs) (l : ws.length = n)
    (h : After X.K T η (fun ρ H => VR X.K ρ η H) ρ H ((run (.ref st.length :: ws) (st ++ [.ins c []])).bind fun v s2 => match v with | .non => .ok (.ref st.length) s2 | _ => .stuck) Q E)
    (x dx : Addr) (hx : H x = none) (hdx : H dx = none) (ne : dx ≠ x) : spM X.K T (n + 1) run (.ref x :: vs) (upd (upd H dx (.own x)) x (.ins (T c) dx [])) (fun v H2 => v = .non ∧ Q (.ref x) H2) E := by
  have hx1 : (upd H dx (.own x)) x = none := by rw [upd_ne (Ne.symm ne)]; exact hx
  have g : Grow ρ H (ρ ++ [x]) (upd (upd H dx (.own x)) x (.ins (T c) dx [])) := (Grow.new hdx).trans (Grow.node hx1)
  have rx : VR X.K (ρ ++ [x]) η (upd (upd H dx (.own x)) x (.ins (T c) dx [])) (.ref st.length) (.ref x) := by
    simp only [VR]
    exact ⟨x, by rw [← s.len, List.getElem?_append_right (Nat.le_refl _)]; simp, rfl⟩
  refine sp_of (ws := .ref st.length :: ws) ((s.new' hdx).node (nd := .ins c []) hx1 ⟨dx, [], upd_same, rfl, VRs.nil⟩) (VRs.cons rx (r.mono g)) (by rw [List.length_cons, l]) ?_
  refine (After.grow g h).bind fun v s2 ρ2 H2 v' g2 sr2 r2 h2 => ?_
  split at h2
  · simp only [VR] at r2
    exact ⟨r2, h2.ok sr2 (rx.mono g2)⟩
  · exact h2.elim
/-- a new instance is made at these slots -/
theorem run_mk {pins : List (Addr × Obj)} {σ : St} {H : Hp} {s : Shared} {Q : VK} {us : List Value} {vs : List V} {C : Addr} {sp : Sp} {E : XK} (M : Mk X.K C f)
    (F : FnOk X.prog X.w X.K X.mg X.base (L2.CX X.prog X.w) k f fd ps sp) (hr : Room (k + 1) X.A) (hb : Binds X.K fd ps []) (hx : PassesAt (L2.CX X.prog X.w) X σ E) (I : Inv X pins σ H s) (r : Vals vs us)
    (h : ∀ x dx, H x = none → H dx = none → dx ≠ x → sp (.ref x :: vs) (upd (upd H dx (.own x)) x (.ins C dx [])) (fun v H2 => v = .non ∧ Q (.ref x) H2) E) : wpAny (model X.prog X.w) X.A (call (.ref C) us) (EP X pins σ Q) X.xe s := by
  have want := h (s.heap.objs.size + 1) s.heap.objs.size (I.hok.fresh (Nat.le_succ _)) (I.hok.fresh (Nat.le_refl _)) (Nat.ne_of_lt (Nat.lt_succ_self _))
  have J := Inv.made (C := C) I
  have rv : Vals (V.ref (s.heap.objs.size + 1) :: vs) (Value.ref (s.heap.objs.size + 1) :: us) := .cons rfl r
  have len : (Value.ref (s.heap.objs.size + 1) :: us).length = ps.length := rv.length.symm.trans (F.len _ _ _ _ want)
  have bd := hb _ (Value.ref (s.heap.objs.size + 1) :: us) J.kIn (by rw [List.append_nil]; exact len)
  rw [List.append_nil] at bd
  have go := F.run _ X.stack _ _ ⟨Value.ref (s.heap.objs.size + 1) :: us, []⟩ _ _ _ E (hr.make C us []) (J.env0.make C us []) bd rv want
  refine wpAny_call (make_map (f := f) I.kIn M.makes M.init (beq_iff_eq.mp M.fn) (codeAny_mono go fun res s' got => ?_))
  match res, got with
  | .error e, got => exact hx pins _ _ e s' J got
  | .ok (.ret u), got =>
    obtain ⟨v, H', J3, rv3, ev, q3⟩ := J.after got
    subst ev
    exact ⟨rv3, ⟨V.ref (s.heap.objs.size + 1), H', J3, rfl, q3⟩⟩
  | .ok .next, got => exact False.elim got
  | .ok .brk, got => exact False.elim got
  | .ok .cont, got => exact False.elim got
theorem se_make {c : Nat} (M : Mk X.K (T c) f) (F : FnM X.prog X.w X.K X.mg X.base T k f fd ps run) (hr : Room (k + 1) X.A) (tk : Takes X Wx) (hg : Gl X x) (hm : X.mg x = some (.ref (T c))) (hb : Binds X.K fd ps []) {n : Nat} (hn : ps.length = n + 1)
    (ha : SAn X T Wx n (e :: es) ma) (hdb : (x == ("__debug__" : Str)) = false := by decide) (he : starEach (e :: es) X.env = (false, eval e X.env) :: starEach es X.env := by rfl) (hpl : (backTo pos (starEach es X.env)).any (·.1) = false := by rfl) :
    SE X T Wx (.Call (.Name x p) (e :: es) [] pos) (mMake c run ma) := by
  intro ρ η st env σ H Q s er q
  -- what is let out, at these slots alone
  refine ⟨fun σ' H' Q' => tSA X (e :: es) σ' H' fun vs H1 => ∀ x dx, H1 x = none → H1 dx = none → dx ≠ x → spM X.K T (n + 1) run (.ref x :: vs) (upd (upd H1 dx (.own x)) x (.ins (T c) dx [])) (fun v H2 => v = .non ∧ Q' (.ref x) H2) (WE Wx σ'), ⟨fun pins s' σ' H' Q' I h => ?_⟩, ?_⟩
  · refine wpAny_Call_Name_kw (ld_glob I hg hm ?_ hdb)
    refine PySem.W.callWith_K (h₀ := X.base) I.ok.mod.kin M.kp (thn (pa_S.run pos pins s' σ' H' _ I h) fun us s1 ⟨vs, H1, I1, r, q1⟩ => ⟨I1.kIn, ?_⟩) he hpl
    exact run_mk (sp := spM X.K T ps.length run) M F hr hb (passAt tk σ') I1 r (fun x dx h1 h2 h3 => by rw [hn]; exact q1 x dx h1 h2 h3)
  · refine ha.run ρ η st env σ H _ s er (After.bindE q fun ws s1 ρ1 H1 vs e1 g1 sr1 r1 h1 => ?_)
    intro x dx hx hdx ne
    exact make_ok sr1 r1 (ha.len env st ws s1 e1) h1 x dx hx hdx ne
end
end Mi
namespace Mi
open PySem PySem.Spec PyProof.Rows L2
/-! ### a def by its body -/
def outOf (r : SRs) : Rs W := match r with
  | .rt w st => .ok w st
  | .nx _ st => .ok .non st
  | .ex x _ st => .ex x st
  | _ => .stuck
def runOf (n : Nat) (m : MS) : RunM := fun ws st => outOf (m (ws.map some ++ List.replicate (n - ws.length) none) st)
/-- the wish of a def about what leaves it -/
abbrev WD (E : XK) : WX' := fun c d _ H => E c d H
theorem er_start {K : PySem.W.Frag} {ρ η : List Addr} {H : Hp} {ws : List W} {vs : List V} {N : List Str} (r : VRs K ρ η H ws vs) : ER K ρ η H (ws.map some ++ List.replicate (N.length - ws.length) none) (L2.start N vs) := by
  unfold L2.start
  refine ⟨by simp [r.len], fun i w e => ?_⟩
  by_cases hi : i < ws.length
  · rw [List.getElem?_append_left (by simpa using hi), List.getElem?_map] at e
    cases q : ws[i]? with
    | none => rw [q] at e; cases e
    | some u =>
      rw [q] at e
      cases e
      obtain ⟨v, h1, h2⟩ := r.get q
      refine ⟨v, ?_, h2⟩
      rw [List.getElem?_append_left (by rw [List.length_map, r.len]; exact hi), List.getElem?_map, h1]
      rfl
  · rw [List.getElem?_append_right (by simpa using Nat.le_of_not_lt hi), List.getElem?_replicate] at e
    split at e <;> cases e
section
variable {P : Program} {w : World} {K : PySem.W.Frag} {mg : Str → Option Value} {base : Heap} {T : Nat → Addr} {k : Nat}
theorem fn_ok {x qual : Str} {st : Stmt} {f : Addr} {fd : FuncData} {N ps : List Str} {m : MS} (F : Fun K x qual st f fd) (S : FnScope N ps (defScope st))
    (hb : ∀ (cdv : Value) (A : Around) (outer : List Env) (s : Shared) (H : Hp) (E : XK), Room k (A.deeper (envOfC qual (defScope st) s.heap.objs.size f cdv)) →
      SSs (L2.cxOf (L2.CX P w) P w K mg base N qual (defScope st) f cdv A outer s H E) T (WD E) (defBody st) m) : FnM P w K mg base T (k + 1) f fd ps (runOf N.length m) := by
  refine F.okX S (fun vs H Q E h => spM_len vs H Q E h) fun cdv A outer s H vs Q E hr h => ?_
  obtain ⟨ρ, η, sto, ws, sr, r, l, a⟩ := h
  have go := hb cdv A outer s H E hr ρ η sto _ _ H { nx := fun _ H' => Q .non H', rt := Q } sr (er_start (N := N) r) ?_
  · exact go
  · unfold runOf at a
    cases e : m (ws.map some ++ List.replicate (N.length - ws.length) none) sto with
    | nx env s1 => rw [e] at a; exact fun ρ1 H1 σ1 g1 sr1 er1 => a ρ1 H1 _ g1 sr1 (by simp only [VR])
    | rt w1 s1 => rw [e] at a; exact a
    | bk env s1 => rw [e] at a; exact a.elim
    | ct env s1 => rw [e] at a; exact a.elim
    | ex x env s1 => rw [e] at a; exact fun ρ1 H1 σ1 c d g1 sr1 er1 xr => a ρ1 H1 c d g1 sr1 xr
    | stuck => rw [e] at a; exact a
end
/-! ### raise -/
def sRaise (c : Nat) : MS := fun env st => .ex (.plain c) env st
section
variable {X : Cx} {T : Nat → Addr} {Wx : WX'} {pos : Pos}
theorem pmk_own0 {C : Addr} {bmB : List Value} {B newId initId : String} {x : Str} {p : Pos} (F : ExcBaseFacts B newId initId bmB) (q : PySem.W.excIn X.K C bmB newId = true) (gC : X.mg x = some (.ref C)) (kC : PySem.W.keepIn X.K (.ref C) = true)
    (r : Raises X (.ref C)) (hg : Gl X x) (hdb : (x == ("__debug__" : Str)) = false := by decide) : PMk X (.Call (.Name x p) [] [] pos) (fun _ H Q => Q (.ref C) none H) := by
  intro pins s σ H Q I h
  refine wpAny_Call_Name_kw (ld_glob I hg gC (PySem.W.callWith_K0 I.kIn kC ?_) hdb)
  obtain ⟨bm, N, nm, qn, bs, hdct, sn, sub, ab, col, dd, k0, k1, k2, k3, k5, mN, hC, hN, hni, TT⟩ := exc_obj I.kIn q
  exact wpAny_call_exc_subT F TT hC hN hni (fun h' e hm => mk_of I hm r h (I.hok.gone hm.new)) (Nat.zero_le _)
/-- what must be known of an own exception class (over ValueError, no __init__) -/
structure ExcOk (X : Cx) (C : Addr) (x : Str) : Prop where
  ex : PySem.W.excIn X.K C [.type "ValueError", .type "Exception", .type "BaseException", .type "object"] "ValueError.__new__" = true
  mg : X.mg x = some (.ref C)
  kp : PySem.W.keepIn X.K (.ref C) = true
  sub : PySem.W.subIn X.K (.ref C) (.type "BaseException") = some true
  ty : PySem.W.typeIn X.K (.ref C) = some (.type "type")
theorem ss_raise0 {c : Nat} {x : Str} {p p2 : Pos} (hc : X.calm = true) (tk : Takes X Wx) (e : ExcOk X (T c) x) (hg : Gl X x) (hdb : (x == ("__debug__" : Str)) = false := by decide) : SSt X T Wx (.Raise (some (.Call (.Name x p) [] [] p2)) none pos) (sRaise c) := by
  intro ρ η st env σ H D s er h
  refine ⟨_, ps_raise hc tk (pmk_own0 PySem.F.excBase_ValueError e.ex e.mg e.kp (raises_own e.sub e.ty) hg hdb), ?_⟩
  exact h ρ H σ _ _ Grow.refl s er ⟨rfl, rfl⟩
/-! ### stores -/
theorem wset_ok {ρ η : List Addr} {H : Hp} {st st1 : Sto} {o i v : W} {ov iv vv : V} (s : SR X.K T ρ η st H) (ro : VR X.K ρ η H o ov) (ri : VR X.K ρ η H i iv) (rv : VR X.K ρ η H v vv) (e : wSet o i v st = some st1) :
    ∃ (p : Addr) (xs : List V) (k : Int) (j : Nat), ov = .ref p ∧ iv = .int k ∧ H p = some (.lst xs) ∧ ixN xs.length k = some j ∧ Grow ρ H ρ (upd H p (.lst (xs.set j vv))) ∧ SR X.K T ρ η st1 (upd H p (.lst (xs.set j vv))) := by
  unfold wSet at e
  split at e
  · rename_i n
    split at e
    · rename_i xs q
      split at e
      · rename_i k
        split at e
        · rename_i j z
          cases e
          obtain ⟨p, e1, e2, vs, e3, e4⟩ := node_at s ro q
          simp only [VR] at ri
          have g : Grow ρ H ρ (upd H p (.lst (vs.set j vv))) := Grow.write (List.mem_of_getElem? e2) (open_of e3 fun _ _ z => nomatch z)
          exact ⟨p, vs, k, j, e1, ri, e3, by rw [e4.len]; exact z, g, s.write (open_of e3 fun _ _ z => nomatch z) e2 ⟨_, upd_same, (e4.set rv j).mono g⟩⟩
        · cases e
      · cases e
    · cases e
  · cases e
def putKW (kvs : List (Key × W)) (k : Key) (v : W) : List (Key × W) :=
  if (kvs.any fun kv => decide (kv.1 = k)) = true then kvs.map fun kv => if kv.1 = k then (kv.1, v) else kv else kvs ++ [(k, v)]
def dropKW (kvs : List (Key × W)) (k : Key) : List (Key × W) := kvs.filter fun kv => decide (kv.1 ≠ k)
/-- a dict's pairs, here and there -/
def KVs (K : PySem.W.Frag) (ρ η : List Addr) (H : Hp) (kvs : List (Key × W)) (kv : List (Key × V)) : Prop := kv.map (·.1) = kvs.map (·.1) ∧ VRs K ρ η H (kvs.map (·.2)) (kv.map (·.2))
theorem KVs.mono {K : PySem.W.Frag} {ρ ρ' η : List Addr} {H H' : Hp} {kvs : List (Key × W)} {kv : List (Key × V)} (g : Grow ρ H ρ' H') (h : KVs K ρ η H kvs kv) : KVs K ρ' η H' kvs kv := ⟨h.1, h.2.mono g⟩
theorem KVs.nil' {K : PySem.W.Frag} {ρ η : List Addr} {H : Hp} {kv : List (Key × V)} (h : KVs K ρ η H [] kv) : kv = [] := by
  have := h.1
  simpa using this
theorem KVs.cons' {K : PySem.W.Frag} {ρ η : List Addr} {H : Hp} {a : Key} {w : W} {kvs : List (Key × W)} {kv : List (Key × V)} (h : KVs K ρ η H ((a, w) :: kvs) kv) : ∃ v r, kv = (a, v) :: r ∧ VR K ρ η H w v ∧ KVs K ρ η H kvs r := by
  obtain ⟨h1, h2⟩ := h
  cases kv with
  | nil => simp at h1
  | cons p r =>
    obtain ⟨b, v⟩ := p
    simp only [List.map_cons, List.cons.injEq] at h1
    rw [List.map_cons, List.map_cons] at h2
    simp only [VRs] at h2
    obtain ⟨v', r', q1, q2, q3⟩ := h2
    simp only [List.cons.injEq] at q1
    obtain ⟨q1, q4⟩ := q1
    refine ⟨v, r, by rw [h1.1], by rw [q1]; exact q2, h1.2, by rw [q4]; exact q3⟩
theorem KVs.mk' {K : PySem.W.Frag} {ρ η : List Addr} {H : Hp} {a : Key} {w : W} {v : V} {kvs : List (Key × W)} {kv : List (Key × V)} (r : VR K ρ η H w v) (h : KVs K ρ η H kvs kv) : KVs K ρ η H ((a, w) :: kvs) ((a, v) :: kv) :=
  ⟨by simp [h.1], by rw [List.map_cons, List.map_cons]; exact VRs.cons r h.2⟩
theorem KVs.append {K : PySem.W.Frag} {ρ η : List Addr} {H : Hp} : ∀ {kvs ks : List (Key × W)} {kv kw : List (Key × V)}, KVs K ρ η H kvs kv → KVs K ρ η H ks kw → KVs K ρ η H (kvs ++ ks) (kv ++ kw)
  | [], ks, kv, kw, h, k => by
    rw [h.nil']
    exact k
  | (a, w) :: kvs, ks, kv, kw, h, k => by
    obtain ⟨v, r, e, h1, h2⟩ := h.cons'
    subst e
    exact KVs.mk' h1 (h2.append k)
theorem KVs.drop {K : PySem.W.Frag} {ρ η : List Addr} {H : Hp} {k : Key} : ∀ {kvs : List (Key × W)} {kv : List (Key × V)}, KVs K ρ η H kvs kv → KVs K ρ η H (dropKW kvs k) (dropK kv k)
  | [], kv, h => by
    rw [h.nil']
    exact ⟨rfl, VRs.nil⟩
  | (a, w) :: kvs, kv, h => by
    obtain ⟨v, r, e, h1, h2⟩ := h.cons'
    subst e
    have ih := KVs.drop (k := k) h2
    unfold dropKW dropK at ih ⊢
    rw [List.filter_cons, List.filter_cons]
    by_cases z : a = k
    · simp only [z, ne_eq, not_true_eq_false, decide_false, Bool.false_eq_true, if_false]
      simp only [ne_eq] at ih
      exact ih
    · simp only [z, ne_eq, not_false_eq_true, decide_true, if_true]
      simp only [ne_eq] at ih
      exact KVs.mk' h1 ih
theorem KVs.any {K : PySem.W.Frag} {ρ η : List Addr} {H : Hp} {k : Key} : ∀ {kvs : List (Key × W)} {kv : List (Key × V)}, KVs K ρ η H kvs kv → (kvs.any fun x => decide (x.1 = k)) = kv.any fun x => decide (x.1 = k)
  | [], kv, h => by rw [h.nil']; rfl
  | (a, w) :: kvs, kv, h => by
    obtain ⟨v, r, e, h1, h2⟩ := h.cons'
    subst e
    rw [List.any_cons, List.any_cons, KVs.any h2]
theorem KVs.upd {K : PySem.W.Frag} {ρ η : List Addr} {H : Hp} {k : Key} {w : W} {v : V} (r : VR K ρ η H w v) : ∀ {kvs : List (Key × W)} {kv : List (Key × V)}, KVs K ρ η H kvs kv → KVs K ρ η H (kvs.map fun x => if x.1 = k then (x.1, w) else x) (kv.map fun x => if x.1 = k then (x.1, v) else x)
  | [], kv, h => by
    rw [h.nil']
    exact ⟨rfl, VRs.nil⟩
  | (a, u) :: kvs, kv, h => by
    obtain ⟨z, r', e, h1, h2⟩ := h.cons'
    subst e
    have ih := KVs.upd (k := k) r h2
    rw [List.map_cons, List.map_cons]
    by_cases q : a = k
    · rw [if_pos q, if_pos q]
      exact KVs.mk' r ih
    · rw [if_neg q, if_neg q]
      exact KVs.mk' h1 ih
theorem KVs.put {K : PySem.W.Frag} {ρ η : List Addr} {H : Hp} {k : Key} {w : W} {v : V} (r : VR K ρ η H w v) {kvs : List (Key × W)} {kv : List (Key × V)} (h : KVs K ρ η H kvs kv) : KVs K ρ η H (putKW kvs k w) (putK kv k v) := by
  unfold putKW putK
  rw [h.any]
  split
  · exact h.upd r
  · exact h.append (KVs.mk' r ⟨rfl, VRs.nil⟩)
theorem KVs.len {K : PySem.W.Frag} {ρ η : List Addr} {H : Hp} {kvs : List (Key × W)} {kv : List (Key × V)} (h : KVs K ρ η H kvs kv) : kv.length = kvs.length := by
  have := congrArg List.length h.1
  simpa using this
/-- o[i] = v of a dict -/
def wPutD (o i v : W) (st : Sto) : Option Sto := match o with
  | .ref n => match st[n]? with
    | some (.dk kvs) => match keyOf i with
      | some k => if kvs.length < sizeLine then some (st.set n (.dk (putKW kvs k v))) else none
      | none => none
    | _ => none
  | _ => none
def wStore (o i v : W) (st : Sto) : Option Sto := match wSet o i v st with
  | some s => some s
  | none => wPutD o i v st
def gSub' (mo mi : M W) : MG := fun w env st => match mo env st with
  | .ok o s1 => match mi env s1 with
    | .ok i s2 => match wStore o i w s2 with
      | some s3 => some (env, s3)
      | none => none
    | _ => none
  | _ => none
theorem wputd_ok {ρ η : List Addr} {H : Hp} {st st1 : Sto} {o i v : W} {ov iv vv : V} (s : SR X.K T ρ η st H) (ro : VR X.K ρ η H o ov) (ri : VR X.K ρ η H i iv) (rv : VR X.K ρ η H v vv) (e : wPutD o i v st = some st1) :
    ∃ (p : Addr) (H1 : Hp), ov = .ref p ∧ DPut H p iv vv H1 ∧ Grow ρ H ρ H1 ∧ SR X.K T ρ η st1 H1 := by
  unfold wPutD at e
  split at e
  · rename_i n
    split at e
    · rename_i kvs q
      split at e
      · rename_i k z
        split at e
        · rename_i lz
          cases e
          obtain ⟨p, e1, e2, kv, e3, e4, e5⟩ := node_at s ro q
          have kk : KVs X.K ρ η H kvs kv := ⟨e4, e5⟩
          have g : Grow ρ H ρ (upd H p (.dK (putK kv k vv))) := Grow.write (List.mem_of_getElem? e2) (open_of e3 fun _ _ z => nomatch z)
          have k2 := (kk.put (k := k) rv).mono g
          rw [key_ok ri z]
          exact ⟨p, _, e1, DPut.k e3 (by rw [kk.len]; exact lz), g, s.write (open_of e3 fun _ _ z => nomatch z) e2 ⟨_, upd_same, k2.1, k2.2⟩⟩
        · cases e
      · cases e
    · cases e
  · cases e
/-- o[i] = .. -/
theorem sg_sub {o i : Expr} {mo mi : M W} (hu : X.A.units + 1 < cLine) (ho : SE X T W0 o mo) (hi : SE X T W0 i mi)
    (ha : ∀ v, assign (.Subscript o i pos) X.env v = (do
      let ov ← holding [v] (eval o X.env)
      let iv ← holding [v, ov] (eval i X.env)
      standAt pos
      holding [v, ov, iv] (setItem ov iv v)
      release [v, ov, iv] []) := by intro _; rfl) : SGt X T (.Subscript o i pos) (gSub' mo mi) := by
  intro ρ η st env σ H w v Q s er r h
  have pset : PSet X (fun o i v H Q => rSetL o i v H Q ∨ rSetD o i v H Q) := fun pins s σ H o i v ov iv u Q I ro ri rv h => h.elim (fun h => set_list pins s σ H o i v ov iv u Q I ro ri rv h) fun h => set_dict hu pins s σ H o i v ov iv u Q I ro ri rv h
  refine ⟨_, pg_sub pe_S pe_S pset ha, ?_⟩
  unfold gSub' at h
  refine ho ρ η st env σ H _ s er ?_
  cases e1 : mo env st with
  | ok ow s1 =>
    rw [e1] at h
    dsimp only at h
    intro ρ1 H1 ov g1 sr1 r1
    refine hi ρ1 η s1 env σ H1 _ sr1 (er.mono g1) ?_
    cases e2 : mi env s1 with
    | ok iw s2 =>
      rw [e2] at h
      intro ρ2 H2 iv g2 sr2 r2
      dsimp only at h
      have rv := (r.mono g1).mono g2
      have ro := r1.mono g2
      have er2 := (er.mono g1).mono g2
      split at h
      · rename_i s3 e3
        unfold wStore at e3
        split at e3
        · rename_i s4 e4
          cases e3
          obtain ⟨p, xs, k, j, f1, f2, f3, f4, f5, f6⟩ := wset_ok sr2 ro r2 rv e4
          exact .inl ⟨p, xs, k, j, f1, f2, f3, f4, h ρ2 _ σ ((g1.trans g2).trans f5) f6 (er2.mono f5)⟩
        · obtain ⟨p, H3, f1, f2, f3, f4⟩ := wputd_ok sr2 ro r2 rv e3
          exact .inr ⟨p, H3, f1, f2, h ρ2 H3 σ ((g1.trans g2).trans f3) f4 (er2.mono f3)⟩
      · exact h.elim
    | ex x s2 => rw [e2] at h; exact h.elim
    | stuck => rw [e2] at h; exact h.elim
  | ex x s1 => rw [e1] at h; exact h.elim
  | stuck => rw [e1] at h; exact h.elim
/-! ### fields -/
theorem putW_ok {ρ η : List Addr} {H : Hp} {f : Str} {w : W} {v : V} (r : VR X.K ρ η H w v) : ∀ {fs : List (Str × W)} {fv : List (Str × V)}, fv.map (·.1) = fs.map (·.1) → VRs X.K ρ η H (fs.map (·.2)) (fv.map (·.2)) →
    (putF f v fv).map (·.1) = (putW f w fs).map (·.1) ∧ VRs X.K ρ η H ((putW f w fs).map (·.2)) ((putF f v fv).map (·.2))
  | [], [], _, _ => ⟨rfl, VRs.cons r VRs.nil⟩
  | [], p :: fv, e, _ => by simp at e
  | p :: fs, [], e, _ => by simp at e
  | (a, y) :: fs, (b, z) :: fv, e, h => by
    simp only [List.map_cons, List.cons.injEq] at e
    obtain ⟨e1, e2⟩ := e
    subst e1
    rw [List.map_cons, List.map_cons] at h
    simp only [VRs] at h
    obtain ⟨v', r', q1, q2, q3⟩ := h
    simp only [List.cons.injEq] at q1
    obtain ⟨q1, q4⟩ := q1
    subst q1; subst q4
    have ih := putW_ok (f := f) r e2 q3
    unfold putW putF
    by_cases q : b = f
    · rw [if_pos q, if_pos q]
      exact ⟨by simp [e2, q], VRs.cons r q3⟩
    · rw [if_neg q, if_neg q]
      exact ⟨by simp [ih.1], VRs.cons q2 ih.2⟩
theorem wsetf_ok {ρ η : List Addr} {H : Hp} {st st1 : Sto} {cs : List Nat} {f : Str} {o v : W} {ov vv : V} (s : SR X.K T ρ η st H) (ro : VR X.K ρ η H o ov) (rv : VR X.K ρ η H v vv) (e : wSetF cs f o v st = some st1) :
    ∃ (a : Addr) (c : Nat) (dx : Addr) (fs : List (Str × V)), ov = .ref a ∧ H a = some (.ins (T c) dx fs) ∧ c ∈ cs ∧ fs.length < 1000 ∧ Grow ρ H ρ (upd H a (.ins (T c) dx (putF f vv fs))) ∧ SR X.K T ρ η st1 (upd H a (.ins (T c) dx (putF f vv fs))) := by
  unfold wSetF at e
  split at e
  · rename_i n
    split at e
    · rename_i c fs q
      split at e
      · rename_i z
        cases e
        obtain ⟨p, e1, e2, dx, fv, e3, e4, e5⟩ := node_at s ro q
        have g : Grow ρ H ρ (upd H p (.ins (T c) dx (putF f vv fv))) := Grow.write (List.mem_of_getElem? e2) (open_of e3 fun _ _ z => nomatch z)
        have l := congrArg List.length e4
        simp only [List.length_map] at l
        obtain ⟨k1, k2⟩ := putW_ok (f := f) rv e4 e5
        exact ⟨p, c, dx, fv, e1, e3, by simpa using z.1, by rw [l]; exact z.2, g, s.write (open_of e3 fun _ _ z => nomatch z) e2 ⟨dx, _, upd_same, k1, k2.mono g⟩⟩
      · cases e
    · cases e
  · cases e
theorem ss_fld {cs : List Nat} {f : Str} {o e : Expr} {mo m : M W} {pos' : Pos} (ho : SE X T Wx o mo) (he : SE X T Wx e m) (hc : ∀ c ∈ cs, Cls X.K (T c) ∧ NoAttr X.K (T c) f) (hs : swapsWith e (some (.Attribute o f pos')) pos.line X.env = pure false := by rfl) :
    SSt X T Wx (.Assign [.Attribute o f pos'] e pos) (sFld' cs f mo m) := by
  intro ρ η st env σ H D s er q
  refine ⟨_, ps_fld pe_S pe_S hs, ?_⟩
  refine he ρ η st env σ H _ s er (q.bind er fun w s1 ρ1 H1 v _ g1 sr1 r1 h1 => ?_)
  refine ho ρ1 η s1 env σ H1 _ sr1 (er.mono g1) (h1.bind (er.mono g1) fun ow s2 ρ2 H2 ov _ g2 sr2 r2 h2 => ?_)
  split at h2
  · rename_i s3 e3
    obtain ⟨a, c, dx, fs, f1, f2, f3, f4, f5, f6⟩ := wsetf_ok sr2 r2 (r1.mono g2) e3
    obtain ⟨k1, k2⟩ := hc c f3
    exact ⟨a, T c, dx, fs, f1, f2, k1, k2, f4, h2 ρ2 _ σ f5 f6 (((er.mono g1).mono g2).mono f5)⟩
  · exact h2.elim
end
end Mi
namespace Mi
open PySem PySem.Spec PyProof.Rows L2
abbrev FC := List W → Sto → Rs W
def OkC (K : PySem.W.Frag) (T : Nat → Addr) (f : FC) (r : List V → Hp → VK → Prop) : Prop := ∀ ρ η st H ws vs Q E, SR K T ρ η st H → VRs K ρ η H ws vs → After K T η (fun ρ H => VR K ρ η H) ρ H (f ws st) Q E → r vs H Q
def mFn (f : FC) (m : M (List W)) : M W := fun env st => (m env st).bind f
section
variable {X : Cx} {T : Nat → Addr} {Wx : WX'} {pos p : Pos} {x : Str} {e : Expr} {es : List Expr} {ma : M (List W)} {r : List V → Hp → VK → Prop} {f : FC}
theorem se_blt {id : String} (hr : CallR X (.builtin id) r) (hf : OkC X.K T f r) (hg : Gl X x) (hm : X.mg x = none) (hv : bootBuiltins x = some (.builtin id)) (ha : SA X T Wx (e :: es) ma) (hn : x ≠ "__name__" := by decide) (hdb : (x == ("__debug__" : Str)) = false := by decide)
    (hst : starEach (e :: es) X.env = (false, eval e X.env) :: starEach es X.env := by rfl) (hpl : (backTo pos (starEach es X.env)).any (·.1) = false := by rfl) : SE X T Wx (.Call (.Name x p) (e :: es) [] pos) (mFn f ma) := by
  intro ρ η st env σ H Q s er q
  refine ⟨_, pe_callB hr hg hm hv pa_S hn hdb hst hpl, ?_⟩
  exact ha ρ η st env σ H _ s er (q.bind fun ws s1 ρ1 H1 vs g1 sr1 r1 h1 => hf ρ1 η s1 H1 ws vs Q _ sr1 r1 h1)
theorem se_bty {id : String} (hr : CallR X (.type id) r) (hf : OkC X.K T f r) (hg : Gl X x) (hm : X.mg x = none) (hv : bootBuiltins x = some (.type id)) (ha : SA X T Wx (e :: es) ma) (hn : x ≠ "__name__" := by decide) (hdb : (x == ("__debug__" : Str)) = false := by decide)
    (hst : starEach (e :: es) X.env = (false, eval e X.env) :: starEach es X.env := by rfl) (hpl : (backTo pos (starEach es X.env)).any (·.1) = false := by rfl) : SE X T Wx (.Call (.Name x p) (e :: es) [] pos) (mFn f ma) := by
  intro ρ η st env σ H Q s er q
  refine ⟨_, pe_callTy hr hg hm hv pa_S hn hdb hst hpl, ?_⟩
  exact ha ρ η st env σ H _ s er (q.bind fun ws s1 ρ1 H1 vs g1 sr1 r1 h1 => hf ρ1 η s1 H1 ws vs Q _ sr1 r1 h1)
end
/-! ### by values -/
def fLen : FC := fun ws st => match ws with
  | [w] => match seqL st w with
    | some xs => .ok (.int xs.length) st
    | none => match w with
      | .tup xs => .ok (.int xs.length) st
      | .str z => if z.length ≤ sizeLine then .ok (.int z.length) st else .stuck
      | .ref i => match st[i]? with
        | some (.dk kvs) => .ok (.int kvs.length) st
        | _ => .stuck
      | _ => .stuck
  | _ => .stuck
def fAbs : FC := fun ws st => match ws with
  | [.int i] => .ok (.int (if i < 0 then -i else i)) st
  | _ => .stuck
def fInt : FC := fun ws st => match ws with
  | [.int i] => .ok (.int i) st
  | [.bl k] => .ok (.int (if k = true then 1 else 0)) st
  | _ => .stuck
def fList (fz : Bool) : FC := fun ws st => match ws with
  | [w] => match seqL st w with
    | some xs => newL fz xs st
    | none => match w with
      | .tup xs => newL fz xs st
      | _ => .stuck
  | _ => .stuck
def fTuple : FC := fun ws st => match ws with
  | [w] => match seqL st w with
    | some xs => .ok (.tup xs) st
    | none => match w with
      | .tup xs => .ok (.tup xs) st
      | _ => .stuck
  | _ => .stuck
/-- the name of a built-in value's type -/
def tyOf (st : Sto) : W → Option String
  | .non => some "NoneType"
  | .bl _ => some "bool"
  | .int _ => some "int"
  | .str _ => some "str"
  | .tup _ => some "tuple"
  | .lst _ => some "list"
  | .ref i => match st[i]? with
    | some (.lst _) => some "list"
    | some (.dk _) => some "dict"
    | some (.lk _) => some "dict"
    | _ => none
  | _ => none
/-- isinstance for built-in types; own: for an own class's instance -/
def fIsi (own : Nat → String → Option Bool) : FC := fun ws st => match ws with
  | [w, .ty n] => match tyOf st w with
    | some t => match kitB t n with
      | some b => .ok (.bl b) st
      | none => .stuck
    | none => match w with
      | .ref i => match st[i]? with
        | some (.ins c _) => match own c n with
          | some b => .ok (.bl b) st
          | none => .stuck
        | _ => .stuck
      | _ => .stuck
  | _ => .stuck
def blsOf : List W → Option (List Bool)
  | [] => some []
  | .bl b :: r => (blsOf r).map (b :: ·)
  | _ => none
def fAll : FC := fun ws st => match ws with
  | [w] => match seqL st w with
    | some xs => match blsOf xs with
      | some bs => .ok (.bl (bs.all id)) st
      | none => .stuck
    | none => .stuck
  | _ => .stuck
def fAny : FC := fun ws st => match ws with
  | [w] => match seqL st w with
    | some xs => match blsOf xs with
      | some bs => .ok (.bl (bs.any id)) st
      | none => .stuck
    | none => .stuck
  | _ => .stuck
def intsOf : List W → Option (List Int)
  | [] => some []
  | .int b :: r => (intsOf r).map (b :: ·)
  | _ => none
def sortZ (ns : List Int) : List Int := ns.mergeSort fun a b => decide (a ≤ b)
def fSorted (fz : Bool) : FC := fun ws st => match ws with
  | [w] => match seqL st w with
    | some xs => match intsOf xs with
      | some ns => newL fz ((sortZ ns).map W.int) st
      | none => .stuck
    | none => match dkOf st w with
      | some kvs => match intsOf (kvs.map fun p => match p.1 with | .inl i => W.int i | .inr x => W.str x) with
        | some ns => if ns.length < 64 then newL fz ((sortZ ns).map W.int) st else .stuck
        | none => .stuck
      | none => .stuck
  | _ => .stuck
section
variable {K : PySem.W.Frag} {T : Nat → Addr} {ρ η : List Addr} {H : Hp} {st : Sto}
theorem vrs1 {w : W} {vs : List V} (h : VRs K ρ η H [w] vs) : ∃ v, vs = [v] ∧ VR K ρ η H w v := by
  simp only [VRs] at h
  obtain ⟨v, r, e, h1, h2⟩ := h
  subst h2
  exact ⟨v, e, h1⟩
theorem vrs2 {w u : W} {vs : List V} (h : VRs K ρ η H [w, u] vs) : ∃ v z, vs = [v, z] ∧ VR K ρ η H w v ∧ VR K ρ η H u z := by
  simp only [VRs] at h
  obtain ⟨v, r, e, h1, v2, r2, e2, h2, h3⟩ := h
  subst h3; subst e2
  exact ⟨v, v2, e, h1, h2⟩
theorem okc_len : OkC K T fLen (fun xs H Q => (∃ x n, xs = [x] ∧ LenV K x H n ∧ Q (.int (n : Nat)) H) ∨ ∃ a kvs, xs = [V.ref a] ∧ H a = some (.dK kvs) ∧ Q (.int (kvs.length : Nat)) H) := by
  intro ρ η st H ws vs Q E s r h
  unfold fLen at h
  split at h
  · rename_i w
    obtain ⟨v, e, rr⟩ := vrs1 r
    clear r
    have r := rr
    clear rr
    subst e
    split at h
    · rename_i xs q
      obtain ⟨a, us, e1, e2, e3⟩ := seq_ok s r q
      subst e1
      exact .inl ⟨_, xs.length, rfl, .inl ⟨us, e2, e3.len.symm⟩, h.ok s (by simp only [VR])⟩
    · split at h
      · rename_i xs q
        obtain ⟨a, us, e1, e2, e3⟩ := tup_ok r (show tupL (.tup xs) = some xs from rfl)
        subst e1
        exact .inl ⟨_, xs.length, rfl, .inr ⟨us, e2, e3.len.symm⟩, h.ok s (by simp only [VR])⟩
      · rename_i z q
        split at h
        · rename_i lz
          simp only [VR] at r
          subst r
          exact .inl ⟨_, z.length, rfl, ⟨lz, rfl⟩, h.ok s (by simp only [VR])⟩
        · exact h.elim
      · rename_i i q
        split at h
        · rename_i kvs e
          obtain ⟨a, e1, _, kv, e2, e3, e4⟩ := node_at s r e
          subst e1
          have l := congrArg List.length e3
          simp only [List.length_map] at l
          refine .inr ⟨a, kv, rfl, e2, ?_⟩
          rw [l]
          exact h.ok s (by simp only [VR])
        · exact h.elim
      · exact h.elim
  · exact h.elim
theorem okc_abs : OkC K T fAbs (fun xs H Q => ∃ i, xs = [.int i] ∧ Q (.int (if i < 0 then -i else i)) H) := by
  intro ρ η st H ws vs Q E s r h
  unfold fAbs at h
  split at h
  · obtain ⟨v, e, rr⟩ := vrs1 r
    clear r
    have r := rr
    clear rr
    simp only [VR] at r
    subst r
    exact ⟨_, e, h.ok s (by simp only [VR])⟩
  · exact h.elim
theorem okc_int : OkC K T fInt (fun xs H Q => (∃ i, xs = [.int i] ∧ Q (.int i) H) ∨ ∃ k, xs = [.bl k] ∧ Q (.int (if k then 1 else 0)) H) := by
  intro ρ η st H ws vs Q E s r h
  unfold fInt at h
  split at h
  · obtain ⟨v, e, rr⟩ := vrs1 r
    clear r
    have r := rr
    clear rr
    simp only [VR] at r
    subst r
    exact .inl ⟨_, e, h.ok s (by simp only [VR])⟩
  · obtain ⟨v, e, rr⟩ := vrs1 r
    clear r
    have r := rr
    clear rr
    simp only [VR] at r
    subst r
    exact .inr ⟨_, e, h.ok s (by simp only [VR])⟩
  · exact h.elim
theorem okc_list {fz : Bool} : OkC K T (fList fz) (fun xs H Q => ∃ p ys, xs = [.ref p] ∧ (SqL K H p ys ∨ SqT K H p ys) ∧ ∀ l, H l = none → Q (.ref l) (upd H l (.lst ys))) := by
  intro ρ η st H ws vs Q E s r h
  unfold fList at h
  split at h
  · rename_i w
    obtain ⟨v, e, rr⟩ := vrs1 r
    clear r
    have r := rr
    clear rr
    subst e
    split at h
    · rename_i xs q
      obtain ⟨a, us, e1, e2, e3⟩ := seq_ok s r q
      subst e1
      exact ⟨a, us, rfl, .inl e2, fun l hl => newL_ok h s e3 hl⟩
    · split at h
      · rename_i xs q
        obtain ⟨a, us, e1, e2, e3⟩ := tup_ok r (show tupL (.tup xs) = some xs from rfl)
        subst e1
        exact ⟨a, us, rfl, .inr e2, fun l hl => newL_ok h s e3 hl⟩
      · exact h.elim
  · exact h.elim
theorem okc_tuple : OkC K T fTuple (fun xs H Q => ∃ p ys, xs = [.ref p] ∧ ((SqL K H p ys ∧ ∀ l, H l = none → Q (.ref l) (upd H l (.tup ys))) ∨ (SqT K H p ys ∧ Q (.ref p) H))) := by
  intro ρ η st H ws vs Q E s r h
  unfold fTuple at h
  split at h
  · rename_i w
    obtain ⟨v, e, rr⟩ := vrs1 r
    clear r
    have r := rr
    clear rr
    subst e
    split at h
    · rename_i xs q
      obtain ⟨a, us, e1, e2, e3⟩ := seq_ok s r q
      subst e1
      exact ⟨a, us, rfl, .inl ⟨e2, fun l hl => newT_ok h s e3 hl⟩⟩
    · split at h
      · rename_i xs q
        obtain ⟨a, us, e1, e2, e3⟩ := tup_ok r (show tupL (.tup xs) = some xs from rfl)
        subst e1
        exact ⟨a, us, rfl, .inr ⟨e2, h.ok s r⟩⟩
      · exact h.elim
  · exact h.elim
theorem ty_ok {w : W} {v : V} {t : String} (s : SR K T ρ η st H) (r : VR K ρ η H w v) (e : tyOf st w = some t) : TyX K H v (.type t) := by
  cases w with
  | non => simp only [VR] at r; subst r; simp only [tyOf, Option.some.injEq] at e; subst e; exact .base .non
  | bl b => simp only [VR] at r; subst r; simp only [tyOf, Option.some.injEq] at e; subst e; exact .base (.bl b)
  | int b => simp only [VR] at r; subst r; simp only [tyOf, Option.some.injEq] at e; subst e; exact .base (.int b)
  | str b => simp only [VR] at r; subst r; simp only [tyOf, Option.some.injEq] at e; subst e; exact .base (.str b)
  | ty n => simp [tyOf] at e
  | at_ n => simp [tyOf] at e
  | fn _ _ _ _ => simp [tyOf] at e
  | scr n => simp [tyOf] at e
  | tup xs =>
    simp only [tyOf, Option.some.injEq] at e
    subst e
    simp only [VR] at r
    obtain ⟨a, vs, e1, e2, e3⟩ := r
    subst e1
    rcases e2 with ⟨_, _, h⟩ | ⟨o, its, n, h1, h2, _⟩
    · rcases h with h | ⟨o, h⟩
      · exact .base (.tup h)
      · exact .fTuple h
    · exact .kTuple h1 h2
  | lst xs =>
    simp only [tyOf, Option.some.injEq] at e
    subst e
    simp only [VR] at r
    obtain ⟨a, vs, e1, e2, e3⟩ := r
    subst e1
    exact .base (.lst e2.2.2)
  | ref i =>
    simp only [tyOf] at e
    split at e
    · rename_i xs q
      cases e
      obtain ⟨a, e1, _, vs, e2, _⟩ := node_at s r q
      subst e1
      exact .base (.lst e2)
    · rename_i xs q
      cases e
      obtain ⟨a, e1, _, vs, e2, _⟩ := node_at s r q
      subst e1
      exact .base (.dK e2)
    · rename_i xs q
      cases e
      obtain ⟨a, e1, _, od, vs, e2, _⟩ := node_at s r q
      subst e1
      exact .fDict e2
    · cases e
/-- what isinstance asks of an own class's instance -/
structure IsiOwn (K : PySem.W.Frag) (C : Addr) : Prop where
  cl : Cls K C
  ha : PySem.W.findIn K (.ref C) "__class__" = some (some (.builtin "object.__class__"))
  hn : PySem.W.specialIn K (.builtin "object.__class__") "__get__" = some (some (.builtin "getset_descriptor.__get__"))
  htk : PySem.W.takesIn K (.builtin "object.__class__") = some true
  hm : PySem.W.mroIn K C (.type "object") = some true
theorem okc_isi {own : Nat → String → Option Bool} (ho : ∀ c n b, own c n = some b → IsiOwn K (T c) ∧ PySem.W.kitOne K (.ref (T c)) (.type n) = some b) : OkC K T (fIsi own) (rIsi K) := by
  intro ρ η st H ws vs Q E s r h
  unfold fIsi at h
  split at h
  · rename_i w n
    obtain ⟨v, z, e, r1, r2⟩ := vrs2 r
    simp only [VR] at r2
    subst r2
    split at h
    · rename_i t q
      split at h
      · rename_i b q2
        exact ⟨v, .ty n, .type t, .type n, b, e, .ty n, ty_ok s r1 q, kit_ty q2, h.ok s (by simp only [VR])⟩
      · exact h.elim
    · split at h
      · rename_i i q
        split at h
        · rename_i c fs q2
          split at h
          · rename_i b q3
            obtain ⟨o1, o2⟩ := ho c n b q3
            obtain ⟨a, e1, _, dx, fv, e2, _⟩ := node_at s r1 q2
            subst e1
            exact ⟨_, .ty n, .ref (T c), .type n, b, e, .ty n, .base (.ins e2 o1.cl o1.ha o1.hn o1.htk o1.hm), o2, h.ok s (by simp only [VR])⟩
          · exact h.elim
        · exact h.elim
      · exact h.elim
  · exact h.elim
theorem bls_ok : ∀ {ws : List W} {vs : List V} {bs : List Bool}, VRs K ρ η H ws vs → blsOf ws = some bs → vs = bs.map V.bl
  | [], vs, bs, r, e => by
    simp only [VRs] at r
    simp only [blsOf, Option.some.injEq] at e
    subst r; subst e; rfl
  | .bl b :: ws, vs, bs, r, e => by
    simp only [VRs, VR] at r
    obtain ⟨v, rr, e1, e2, e3⟩ := r
    simp only [blsOf, Option.map_eq_some_iff] at e
    obtain ⟨cs, e4, e5⟩ := e
    subst e1; subst e2; subst e5
    rw [bls_ok e3 e4, List.map_cons]
  | .non :: ws, vs, bs, r, e => by simp [blsOf] at e
  | .int _ :: ws, vs, bs, r, e => by simp [blsOf] at e
  | .str _ :: ws, vs, bs, r, e => by simp [blsOf] at e
  | .ty _ :: ws, vs, bs, r, e => by simp [blsOf] at e
  | .tup _ :: ws, vs, bs, r, e => by simp [blsOf] at e
  | .lst _ :: ws, vs, bs, r, e => by simp [blsOf] at e
  | .scr _ :: ws, vs, bs, r, e => by simp [blsOf] at e
  | .ref _ :: ws, vs, bs, r, e => by simp [blsOf] at e
  | .at_ _ :: ws, vs, bs, r, e => by simp [blsOf] at e
  | .fn _ _ _ _ :: ws, vs, bs, r, e => by simp [blsOf] at e
theorem ints_ok : ∀ {ws : List W} {vs : List V} {bs : List Int}, VRs K ρ η H ws vs → intsOf ws = some bs → vs = bs.map V.int
  | [], vs, bs, r, e => by
    simp only [VRs] at r
    simp only [intsOf, Option.some.injEq] at e
    subst r; subst e; rfl
  | .int b :: ws, vs, bs, r, e => by
    simp only [VRs, VR] at r
    obtain ⟨v, rr, e1, e2, e3⟩ := r
    simp only [intsOf, Option.map_eq_some_iff] at e
    obtain ⟨cs, e4, e5⟩ := e
    subst e1; subst e2; subst e5
    rw [ints_ok e3 e4, List.map_cons]
  | .non :: ws, vs, bs, r, e => by simp [intsOf] at e
  | .bl _ :: ws, vs, bs, r, e => by simp [intsOf] at e
  | .str _ :: ws, vs, bs, r, e => by simp [intsOf] at e
  | .ty _ :: ws, vs, bs, r, e => by simp [intsOf] at e
  | .tup _ :: ws, vs, bs, r, e => by simp [intsOf] at e
  | .lst _ :: ws, vs, bs, r, e => by simp [intsOf] at e
  | .scr _ :: ws, vs, bs, r, e => by simp [intsOf] at e
  | .ref _ :: ws, vs, bs, r, e => by simp [intsOf] at e
  | .at_ _ :: ws, vs, bs, r, e => by simp [intsOf] at e
  | .fn _ _ _ _ :: ws, vs, bs, r, e => by simp [intsOf] at e
theorem okc_all : OkC K T fAll (rAll K) := by
  intro ρ η st H ws vs Q E s r h
  unfold fAll at h
  split at h
  · rename_i w
    obtain ⟨v, e, rr⟩ := vrs1 r
    clear r
    have r := rr
    clear rr
    subst e
    split at h
    · rename_i xs q
      obtain ⟨a, us, e1, e2, e3⟩ := seq_ok s r q
      split at h
      · rename_i bs q2
        have := bls_ok e3 q2
        subst us; subst e1
        exact ⟨a, bs, rfl, e2, h.ok s (by simp only [VR])⟩
      · exact h.elim
    · exact h.elim
  · exact h.elim
theorem sortZ_of {ns ms : List Int} (p : ms.Perm ns) (q : ms.Pairwise (· ≤ ·)) : ms = sortZ ns := by
  have p2 : (sortZ ns).Perm ns := List.mergeSort_perm ns _
  have q2 : (sortZ ns).Pairwise (· ≤ ·) := by
    have := List.pairwise_mergeSort (le := fun a b : Int => decide (a ≤ b)) (by intro a b c; simp; omega) (by intro a b; simp; omega) ns
    exact this.imp (by intro a b; simp)
  exact (p.trans p2.symm).eq_of_pairwise (fun a b _ _ h1 h2 => Int.le_antisymm h1 h2) q q2
theorem vints {ns : List Int} : VRs K ρ η H (ns.map W.int) (ns.map V.int) := by
  refine VRs.of_get (by simp) fun i x v e1 e2 => ?_
  rw [List.getElem?_map] at e1 e2
  cases q : ns[i]? with
  | none => rw [q] at e1; cases e1
  | some n =>
    rw [q] at e1 e2
    cases e1; cases e2
    simp only [VR]
def rSortDI : List V → Hp → VK → Prop := fun xs H Q => ∃ (a : Addr) (kvs : List (Key × V)) (ks : List Int), xs = [.ref a] ∧ Rd H a (.dK kvs) ∧ kvs.map (·.1) = ks.map Sum.inl ∧ ks.length < 64 ∧ ∀ (ys : List Int) (p : Addr), ys.Perm ks → ys.Pairwise (· ≤ ·) → H p = none → Q (.ref p) (upd H p (.lst (ys.map V.int)))
theorem okc_sorted {fz : Bool} : OkC K T (fSorted fz) (fun xs H Q => rSortedI K xs H Q ∨ rSortDI xs H Q) := by
  intro ρ η st H ws vs Q E s r h
  unfold fSorted at h
  split at h
  · rename_i w
    obtain ⟨v, e, rr⟩ := vrs1 r
    clear r
    have r := rr
    clear rr
    subst e
    split at h
    · rename_i xs q
      obtain ⟨a, us, e1, e2, e3⟩ := seq_ok s r q
      split at h
      · rename_i ns q2
        have := ints_ok e3 q2
        subst us; subst e1
        refine .inl ⟨a, ns, rfl, e2, fun ns' p p1 p2 hp => ?_⟩
        rw [sortZ_of p1 p2]
        exact newL_ok h s vints hp
      · exact h.elim
    · split at h
      · rename_i kvs q
        split at h
        · rename_i ns q2
          split at h
          · rename_i lz
            have hs : ∀ {st : Sto} {w : W} {v : V} {kvs : List (Key × W)}, SR K T ρ η st H → VR K ρ η H w v → dkOf st w = some kvs → ∃ a kv, v = .ref a ∧ Rd H a (.dK kv) ∧ kv.map (·.1) = kvs.map (·.1) := by
              intro st w v kvs s r e
              cases w with
              | ref i =>
                simp only [dkOf] at e
                split at e
                · rename_i ks q
                  cases e
                  obtain ⟨a, h1, _, kv, h2, h3, h4⟩ := node_at s r q
                  exact ⟨a, kv, h1, .inl h2, h3⟩
                · rename_i ks q
                  cases e
                  obtain ⟨a, h1, _, od, kv, h2, h3, h4⟩ := node_at s r q
                  exact ⟨a, kv, h1, .inr ⟨od, h2⟩, h3⟩
                · cases e
              | _ => simp [dkOf] at e
            obtain ⟨a, kv, e1, e2, e3⟩ := hs s r q
            have ks : ∀ {kvs : List (Key × W)} {ns : List Int}, intsOf (kvs.map fun p => match p.1 with | .inl i => W.int i | .inr x => W.str x) = some ns → kvs.map (·.1) = ns.map Sum.inl := by
              intro kvs
              induction kvs with
              | nil => intro ns e; simp [intsOf] at e; subst e; rfl
              | cons p kvs ih =>
                intro ns e
                obtain ⟨k, w⟩ := p
                cases k with
                | inl i =>
                  simp only [List.map_cons, intsOf, Option.map_eq_some_iff] at e
                  obtain ⟨ms, e1, e2⟩ := e
                  subst e2
                  rw [List.map_cons, ih e1, List.map_cons]
                | inr x => simp [intsOf] at e
            subst e1
            refine .inr ⟨a, kv, ns, rfl, e2, by rw [e3]; exact ks q2, lz, fun ys p p1 p2 hp => ?_⟩
            rw [sortZ_of p1 p2]
            exact newL_ok h s vints hp
          · exact h.elim
        · exact h.elim
      · exact h.elim
  · exact h.elim
end
end Mi
namespace Mi
open PySem PySem.Spec PyProof.Rows L2
section
variable {X : Cx} {T : Nat → Addr} {Wx : WX'} {pos : Pos}
/-! ### a method of a list -/
abbrev FM := W → List W → Sto → Rs W
def OkM (K : PySem.W.Frag) (T : Nat → Addr) (f : FM) (r : V → List V → Hp → VK → Prop) : Prop := ∀ ρ η st H o ws x vs Q E, SR K T ρ η st H → VR K ρ η H o x → VRs K ρ η H ws vs → After K T η (fun ρ H => VR K ρ η H) ρ H (f o ws st) Q E → r x vs H Q
def mLm (f : FM) (mo : M W) (ma : M (List W)) : M W := fun env st => (mo env st).bind fun o s1 => if (seqL s1 o).isSome = true then (ma env s1).bind fun ws s2 => f o ws s2 else .stuck
theorem se_lm {id : String} {name : Str} {o e : Expr} {es : List Expr} {mo : M W} {ma : M (List W)} {f : FM} {r : V → List V → Hp → VK → Prop} {apos : Pos} (slot : Slot "list" name id) (hty : typeOf (.builtin id) = pure (.type "method_descriptor")) (hm : MtR X id r) (hf : OkM X.K T f r)
    (ho : SE X T Wx o mo) (ha : SA X T Wx (e :: es) ma)
    (hbase : attributeBase o name X.env (eval o X.env) = eval o X.env := by rfl)
    (hfew : ((backTo pos (starEach (e :: es) X.env)).all (fun x => !x.1) && (backToKw pos (keywordEach [] X.env)).all (fun x => x.1.isSome)
      && decide ((e :: es).length + ([] : List Keyword).length + (if ([] : List Keyword).isEmpty then 0 else 1) < 30)) = true := by rfl)
    (hline : (apos.endLine == pos.line) = true := by rfl) (hs : starEach (e :: es) X.env = (false, eval e X.env) :: starEach es X.env := by rfl) (hplain : (backTo pos (starEach es X.env)).any (·.1) = false := by rfl) :
    SE X T Wx (.Call (.Attribute o name apos) (e :: es) [] pos) (mLm f mo ma) := by
  intro ρ η st env σ H Q s er q
  refine ⟨_, pe_bm PySem.F.plainAttrs_list slot hty hm pe_S pa_S hbase hfew hline hs hplain, ?_⟩
  refine ho ρ η st env σ H _ s er (q.bind fun w s1 ρ1 H1 v g1 sr1 r1 h1 => ?_)
  split at h1
  · rename_i z
    obtain ⟨xs, z⟩ := Option.isSome_iff_exists.mp z
    obtain ⟨a, vs, e1, e2, e3⟩ := seq_ok sr1 r1 z
    subst e1
    refine ⟨.inl ⟨rfl, vs, e2⟩, ?_⟩
    exact ha ρ1 η s1 env σ H1 _ sr1 (er.mono g1) (h1.bind fun ws s2 ρ2 H2 us g2 sr2 r2 h2 => hf ρ2 η s2 H2 w ws _ us Q _ sr2 (r1.mono g2) r2 h2)
  · exact h1.elim
end
/-- a place's list -/
def nodL (st : Sto) : W → Option (Nat × List W)
  | .ref i => match st[i]? with
    | some (.lst xs) => some (i, xs)
    | _ => none
  | _ => none
def nodD (st : Sto) : W → Option (Nat × List (Key × W))
  | .ref i => match st[i]? with
    | some (.dk xs) => some (i, xs)
    | _ => none
  | _ => none
def fAppend : FM := fun o ws st => match nodL st o, ws with
  | some (i, xs), [w] => if xs.length < sizeLine then .ok .non (st.set i (.lst (xs ++ [w]))) else .stuck
  | _, _ => .stuck
def fPopAt : FM := fun o ws st => match nodL st o, ws with
  | some (i, xs), [.int j] => if j.natAbs < 2 ^ 63 then (match seqIndex? j xs.length with
    | some k => match xs[k]? with
      | some w => .ok w (st.set i (.lst (xs.eraseIdx k)))
      | none => .stuck
    | none => .stuck) else .stuck
  | _, _ => .stuck
section
variable {K : PySem.W.Frag} {T : Nat → Addr} {ρ η : List Addr} {H : Hp} {st : Sto}
theorem nodl_ok {w : W} {v : V} {i : Nat} {xs : List W} (s : SR K T ρ η st H) (h : VR K ρ η H w v) (e : nodL st w = some (i, xs)) : ∃ a vs, v = .ref a ∧ ρ[i]? = some a ∧ H a = some (.lst vs) ∧ VRs K ρ η H xs vs := by
  cases w with
  | ref j =>
    simp only [nodL] at e
    split at e
    · rename_i ys q
      cases e
      obtain ⟨a, h1, h0, vs, h2, h3⟩ := node_at s h q
      exact ⟨a, vs, h1, h0, h2, h3⟩
    · cases e
  | _ => simp [nodL] at e
theorem nodd_ok {w : W} {v : V} {i : Nat} {xs : List (Key × W)} (s : SR K T ρ η st H) (h : VR K ρ η H w v) (e : nodD st w = some (i, xs)) : ∃ a kv, v = .ref a ∧ ρ[i]? = some a ∧ H a = some (.dK kv) ∧ KVs K ρ η H xs kv := by
  cases w with
  | ref j =>
    simp only [nodD] at e
    split at e
    · rename_i ys q
      cases e
      obtain ⟨a, h1, h0, vs, h2, h3, h4⟩ := node_at s h q
      exact ⟨a, vs, h1, h0, h2, h3, h4⟩
    · cases e
  | _ => simp [nodD] at e
/-- a place's list becomes another one -/
theorem lst_put {i : Nat} {a : Addr} {vs us : List V} {ys : List W} {w : W} {v : V} {Q : V → Hp → Prop} {E : Value → Option Addr → Hp → Prop} (s : SR K T ρ η st H) (q : ρ[i]? = some a) (e : H a = some (.lst vs)) (r : VRs K ρ η H ys us) (rw : VR K ρ η H w v)
    (h : After K T η (fun ρ H => VR K ρ η H) ρ H (.ok w (st.set i (.lst ys))) Q E) : Q v (upd H a (.lst us)) := by
  have op : Open H a := open_of e fun _ _ z => nomatch z
  have g : Grow ρ H ρ (upd H a (.lst us)) := Grow.write (List.mem_of_getElem? q) op
  exact h ρ _ v g (s.write op q ⟨us, upd_same, r.mono g⟩) (rw.mono g)
theorem dk_put {i : Nat} {a : Addr} {kv kw : List (Key × V)} {ys : List (Key × W)} {w : W} {v : V} {Q : V → Hp → Prop} {E : Value → Option Addr → Hp → Prop} (s : SR K T ρ η st H) (q : ρ[i]? = some a) (e : H a = some (.dK kv)) (r : KVs K ρ η H ys kw) (rw : VR K ρ η H w v)
    (h : After K T η (fun ρ H => VR K ρ η H) ρ H (.ok w (st.set i (.dk ys))) Q E) : Q v (upd H a (.dK kw)) := by
  have op : Open H a := open_of e fun _ _ z => nomatch z
  have g : Grow ρ H ρ (upd H a (.dK kw)) := Grow.write (List.mem_of_getElem? q) op
  have r' := r.mono g
  exact h ρ _ v g (s.write op q ⟨kw, upd_same, r'.1, r'.2⟩) (rw.mono g)
theorem vr_non : VR K ρ η H .non .non := by simp only [VR]
theorem okm_append : OkM K T fAppend rAppend := by
  intro ρ η st H o ws x vs Q E s ro r h
  unfold fAppend at h
  split at h
  · rename_i i xs w q
    obtain ⟨a, us, e1, e2, e3, e4⟩ := nodl_ok s ro q
    obtain ⟨v, e5, r1⟩ := vrs1 r
    split at h
    · rename_i lz
      exact ⟨a, us, v, e1, e5, e3, by rw [e4.len]; exact lz, lst_put s e2 e3 (e4.append (VRs.cons r1 VRs.nil)) vr_non h⟩
    · exact h.elim
  · exact h.elim
theorem okm_popAt : OkM K T fPopAt rPopAt := by
  intro ρ η st H o ws x vs Q E s ro r h
  unfold fPopAt at h
  split at h
  · rename_i i xs j q
    obtain ⟨a, us, e1, e2, e3, e4⟩ := nodl_ok s ro q
    obtain ⟨v, e5, r1⟩ := vrs1 r
    simp only [VR] at r1
    subst r1
    split at h
    · rename_i z
      split at h
      · rename_i k q2
        split at h
        · rename_i w q3
          obtain ⟨y, e6, e7⟩ := e4.get q3
          exact ⟨a, us, j, k, y, e1, e5, e3, by omega, by omega, by rw [e4.len]; exact q2, e6, lst_put s e2 e3 (e4.eraseIdx k) e7 h⟩
        · exact h.elim
      · exact h.elim
    · exact h.elim
  · exact h.elim
end
/-! ### dicts -/
def mDget2 (mo mk md : M W) : M W := fun env st => (mo env st).bind fun o s1 => if (dkOf s1 o).isSome = true then (mk env s1).bind fun k s2 => (md env s2).bind fun d s3 => match dkOf s3 o, keyOf k with
    | some kvs, some k => .ok ((lkW kvs k).getD d) s3
    | _, _ => .stuck else .stuck
def mDset2 (mo mk md : M W) : M W := fun env st => (mo env st).bind fun o s1 => if (dkOf s1 o).isSome = true then (mk env s1).bind fun k s2 => (md env s2).bind fun d s3 => match nodD s3 o, keyOf k with
    | some (i, kvs), some k => if kvs.length < sizeLine then (match lkW kvs k with
      | some w => .ok w s3
      | none => .ok d (s3.set i (.dk (putKW kvs k d)))) else .stuck
    | _, _ => .stuck else .stuck
def mDin (neg : Bool) (mk mo : M W) : M W := fun env st => (mk env st).bind fun k s1 => (mo env s1).bind fun o s2 => match dkOf s2 o, keyOf k with
  | some kvs, some k => .ok (.bl (if neg = true then !(lkW kvs k).isSome else (lkW kvs k).isSome)) s2
  | _, _ => .stuck
def sDel (mo mk : M W) : MS := fun env st => (mo env st).to env fun o s1 => (mk env s1).to env fun k s2 => match nodD s2 o, keyOf k with
  | some (i, kvs), some k => if (lkW kvs k).isSome = true then .nx env (s2.set i (.dk (dropKW kvs k))) else .stuck
  | _, _ => .stuck
section
variable {X : Cx} {T : Nat → Addr} {Wx : WX'} {pos apos : Pos}
theorem m2_of {o e f : Expr} {m : Str} {cpos : Pos} (h1 : attributeBase o m X.env (eval o X.env) = eval o X.env := by rfl) (h2 : ((backTo cpos (starEach [e, f] X.env)).all (fun x => !x.1) && (backToKw cpos (keywordEach [] X.env)).all (fun x => x.1.isSome)
    && decide (([e, f] : List Expr).length + ([] : List Keyword).length + (if ([] : List Keyword).isEmpty then 0 else 1) < 30)) = true := by rfl) (h3 : (apos.endLine == cpos.line) = true := by rfl) (h4 : backTo cpos (starEach [e, f] X.env) = [(false, eval e X.env), (false, eval f X.env)] := by rfl) : M2 X o m apos e f cpos := ⟨h1, h2, h3, h4⟩
theorem se_dget2 {o e f : Expr} {mo mk md : M W} (hu : X.A.units + 1 < cLine) (ho : SE X T Wx o mo) (he : SE X T Wx e mk) (hf : SE X T Wx f md) (m : M2 X o "get" apos e f pos) : SE X T Wx (.Call (.Attribute o "get" apos) [e, f] [] pos) (mDget2 mo mk md) := by
  intro ρ η st env σ H Q s er q
  refine ⟨_, pe_dget2 hu pe_S pe_S pe_S m, ?_⟩
  refine ho ρ η st env σ H _ s er (q.bind fun w s1 ρ1 H1 v g1 sr1 r1 h1 => ?_)
  split at h1
  · rename_i z
    obtain ⟨kvs, z⟩ := Option.isSome_iff_exists.mp z
    obtain ⟨a, kv, e1, e2, _⟩ := dk_ok sr1 r1 z
    refine ⟨a, e1, .inl ⟨kv, e2⟩, ?_⟩
    refine he ρ1 η s1 env σ H1 _ sr1 (er.mono g1) (h1.bind fun k s2 ρ2 H2 kv' g2 sr2 r2 h2 => ?_)
    refine hf ρ2 η s2 env σ H2 _ sr2 ((er.mono g1).mono g2) (h2.bind fun d s3 ρ3 H3 dv g3 sr3 r3 h3 => ?_)
    split at h3
    · rename_i ks k q1 q2
      obtain ⟨a', kw, f1, f2, f3, f4⟩ := dk_ok sr3 (r1.mono (g2.trans g3)) q1
      rw [e1] at f1
      cases f1
      rcases kv_find (k := k) f3 f4 with ⟨z1, z2⟩ | ⟨y, u, z1, z2, z3⟩
      · rw [z1] at h3
        exact ⟨none, .inl ⟨kw, k, f2, key_ok (r2.mono g3) q2, z2.symm⟩, h3.ok sr3 r3⟩
      · rw [z1] at h3
        exact ⟨some u, .inl ⟨kw, k, f2, key_ok (r2.mono g3) q2, z2.symm⟩, h3.ok sr3 z3⟩
    · exact h3.elim
  · exact h1.elim
theorem se_dset2 {o e f : Expr} {mo mk md : M W} (ho : SE X T Wx o mo) (he : SE X T Wx e mk) (hf : SE X T Wx f md) (m : M2 X o "setdefault" apos e f pos) : SE X T Wx (.Call (.Attribute o "setdefault" apos) [e, f] [] pos) (mDset2 mo mk md) := by
  intro ρ η st env σ H Q s er q
  refine ⟨_, pe_dsetd pe_S pe_S pe_S m, ?_⟩
  refine ho ρ η st env σ H _ s er (q.bind fun w s1 ρ1 H1 v g1 sr1 r1 h1 => ?_)
  split at h1
  · rename_i z
    obtain ⟨kvs, z⟩ := Option.isSome_iff_exists.mp z
    obtain ⟨a, kv, e1, e2, _⟩ := dk_ok sr1 r1 z
    refine ⟨a, e1, .inl ⟨kv, e2⟩, ?_⟩
    refine he ρ1 η s1 env σ H1 _ sr1 (er.mono g1) (h1.bind fun k s2 ρ2 H2 kv' g2 sr2 r2 h2 => ?_)
    refine hf ρ2 η s2 env σ H2 _ sr2 ((er.mono g1).mono g2) (h2.bind fun d s3 ρ3 H3 dv g3 sr3 r3 h3 => ?_)
    split at h3
    · rename_i i ks k q1 q2
      obtain ⟨a', kw, f1, f2, f3, f4⟩ := nodd_ok sr3 (r1.mono (g2.trans g3)) q1
      rw [e1] at f1
      cases f1
      split at h3
      · rename_i lz
        refine ⟨kw, k, f3, key_ok (r2.mono g3) q2, by rw [f4.len]; exact lz, fun u z2 => ?_, fun z2 => ?_⟩
        · rcases kv_find (k := k) f4.1 f4.2 with ⟨y1, y2⟩ | ⟨y, u', y1, y2, y3⟩
          · rw [y2] at z2; cases z2
          · rw [y2] at z2
            cases z2
            rw [y1] at h3
            exact h3.ok sr3 y3
        · rcases kv_find (k := k) f4.1 f4.2 with ⟨y1, y2⟩ | ⟨y, u', y1, y2, y3⟩
          · rw [y1] at h3
            exact dk_put sr3 f2 f3 (f4.put r3) r3 h3
          · rw [y2] at z2; cases z2
      · exact h3.elim
    · exact h3.elim
  · exact h1.elim
theorem din_ok {ρ η : List Addr} {H : Hp} {st : Sto} {neg : Bool} {k o : W} {kv ov : V} {Q : V → Hp → Prop} {E : Value → Option Addr → Hp → Prop} (s : SR X.K T ρ η st H) (rk : VR X.K ρ η H k kv) (ro : VR X.K ρ η H o ov)
    (h : After X.K T η (fun ρ H => VR X.K ρ η H) ρ H (match dkOf st o, keyOf k with
      | some kvs, some k => .ok (.bl (if neg = true then !(lkW kvs k).isSome else (lkW kvs k).isSome)) st
      | _, _ => .stuck) Q E) : ∃ a o, ov = .ref a ∧ DGet H a kv o ∧ Q (.bl (if neg = true then !o.isSome else o.isSome)) H := by
  split at h
  · rename_i ks k q1 q2
    obtain ⟨a, kw, f1, f2, f3, f4⟩ := dk_ok s ro q1
    rcases kv_find (k := k) f3 f4 with ⟨z1, z2⟩ | ⟨y, u, z1, z2, z3⟩
    · rw [z1] at h
      exact ⟨a, none, f1, .inl ⟨kw, k, f2, key_ok rk q2, z2.symm⟩, h.ok s (by simp only [VR]; cases neg <;> rfl)⟩
    · rw [z1] at h
      exact ⟨a, some u, f1, .inl ⟨kw, k, f2, key_ok rk q2, z2.symm⟩, h.ok s (by simp only [VR]; cases neg <;> rfl)⟩
  · exact h.elim
/-- .. as tests -/
theorem st_din {i o : Expr} {mi mo : M W} (hu : X.A.units + 1 < cLine) (hi : SE X T Wx i mi) (ho : SE X T Wx o mo) (h1 : behindInMarks .In o = false := by rfl) : STt X T Wx (.Compare i [.In] [o] pos) (mB (mDin false mi mo)) := by
  intro ρ η st env σ H Q s er q
  refine ⟨_, pt_cmp (pc_din hu pe_S pe_S) h1, ?_⟩
  unfold mB mDin at q
  rw [Rs.bind_assoc] at q
  refine hi ρ η st env σ H _ s er (q.bind fun k s1 ρ1 H1 v g1 sr1 r1 h1 => ?_)
  rw [Rs.bind_assoc] at h1
  refine ho ρ1 η s1 env σ H1 _ sr1 (er.mono g1) (h1.bind fun w s2 ρ2 H2 u g2 sr2 r2 h2 => ?_)
  have := din_ok (X := X) (T := T) (neg := false) (Q := fun v H => ∃ c, v = .bl c ∧ Q c H) (E := fun c d H' => Wx c d σ H') sr2 (r1.mono g2) r2 (h2.bind fun z s3 ρ3 H3 v3 g3 sr3 r3 h3 => toB_ok sr3 r3 h3)
  exact this
theorem st_dnin {i o : Expr} {mi mo : M W} (hu : X.A.units + 1 < cLine) (hi : SE X T Wx i mi) (ho : SE X T Wx o mo) (h1 : behindInMarks .NotIn o = false := by rfl) : STt X T Wx (.Compare i [.NotIn] [o] pos) (mB (mDin true mi mo)) := by
  intro ρ η st env σ H Q s er q
  refine ⟨_, pt_cmp (pc_dnotin hu pe_S pe_S) h1, ?_⟩
  unfold mB mDin at q
  rw [Rs.bind_assoc] at q
  refine hi ρ η st env σ H _ s er (q.bind fun k s1 ρ1 H1 v g1 sr1 r1 h1 => ?_)
  rw [Rs.bind_assoc] at h1
  refine ho ρ1 η s1 env σ H1 _ sr1 (er.mono g1) (h1.bind fun w s2 ρ2 H2 u g2 sr2 r2 h2 => ?_)
  have := din_ok (X := X) (T := T) (neg := true) (Q := fun v H => ∃ c, v = .bl c ∧ Q c H) (E := fun c d H' => Wx c d σ H') sr2 (r1.mono g2) r2 (h2.bind fun z s3 ρ3 H3 v3 g3 sr3 r3 h3 => toB_ok sr3 r3 h3)
  exact this
theorem ss_del {o i : Expr} {mo mi : M W} {tpos : Pos} (ho : SE X T Wx o mo) (hi : SE X T Wx i mi) : SSt X T Wx (.Delete [.Subscript o i tpos] pos) (sDel mo mi) := by
  intro ρ η st env σ H D s er q
  refine ⟨_, ps_ddel pe_S pe_S, ?_⟩
  refine ho ρ η st env σ H _ s er (q.bind er fun w s1 ρ1 H1 v _ g1 sr1 r1 h1 => ?_)
  refine hi ρ1 η s1 env σ H1 _ sr1 (er.mono g1) (h1.bind (er.mono g1) fun k s2 ρ2 H2 kv _ g2 sr2 r2 h2 => ?_)
  split at h2
  · rename_i i ks k q1 q2
    obtain ⟨a, kw, f1, f2, f3, f4⟩ := nodd_ok sr2 (r1.mono g2) q1
    split at h2
    · rename_i z
      have z' : (valV kw k).isSome = true := by
        rcases kv_find (k := k) f4.1 f4.2 with ⟨y1, y2⟩ | ⟨y, u', y1, y2, y3⟩
        · rw [y1] at z; cases z
        · rw [y2]; rfl
      refine ⟨a, kw, k, f1, f3, key_ok r2 q2, z', ?_⟩
      have op : Open H2 a := open_of f3 fun _ _ z => nomatch z
      have g : Grow ρ2 H2 ρ2 (upd H2 a (.dK (dropK kw k))) := Grow.write (List.mem_of_getElem? f2) op
      have r' := (f4.drop (k := k)).mono g
      exact h2 ρ2 _ σ g (sr2.write op f2 ⟨_, upd_same, r'.1, r'.2⟩) (((er.mono g1).mono g2).mono g)
    · exact h2.elim
  · exact h2.elim
/-! ### op= -/
/-- o.f op= e -/
def sFaug (cs : List Nat) (f : Str) (g : Int → Int → Int) (mo m : M W) : MS := fun env st => (mo env st).to env fun o s1 => match o with
  | .ref i => match s1[i]? with
    | some (.ins c fs) => if cs.contains c then (match fs.lookup f with
      | some (.int a) => (m env s1).to env fun v s2 => match v with
        | .int b => match wSetF [c] f o (.int (g a b)) s2 with
          | some s3 => .nx env s3
          | none => .stuck
        | _ => .stuck
      | _ => .stuck) else .stuck
    | _ => .stuck
  | _ => .stuck
theorem ss_faug {cs : List Nat} {f : Str} {o e : Expr} {mo m : M W} {op : Operator} {g : Int → Int → Int} {rd : V → V → Hp → VK → Prop} {tpos : Pos} (ho : SE X T Wx o mo) (he : SE X T Wx e m) (hop : InOp X op rd) (hrd : ∀ i j H Q, Q (.int (g i j)) H → rd (.int i) (.int j) H Q) (hc : ∀ c ∈ cs, Cls X.K (T c) ∧ NoAttr X.K (T c) f) :
    SSt X T Wx (.AugAssign (.Attribute o f tpos) op e pos) (sFaug cs f g mo m) := by
  intro ρ η st env σ H D s er q
  refine ⟨_, ps_fldaug pe_S pe_S hop, ?_⟩
  refine ho ρ η st env σ H _ s er (q.bind er fun w s1 ρ1 H1 v _ g1 sr1 r1 h1 => ?_)
  split at h1
  · rename_i i
    split at h1
    · rename_i c fs e1
      split at h1
      · rename_i z
        split at h1
        · rename_i a e2
          obtain ⟨p, f1, _, dx, fv, f2, f3, f4⟩ := node_at sr1 r1 e1
          obtain ⟨u, f5, f6⟩ := fv_find f3 f4 e2
          obtain ⟨k1, k2⟩ := hc c (by simpa using z)
          refine ⟨p, T c, dx, fv, u, f1, f2, k1, k2, f5, ?_⟩
          refine he ρ1 η s1 env σ H1 _ sr1 (er.mono g1) (h1.bind (er.mono g1) fun b s2 ρ2 H2 bv _ g2 sr2 r2 h2 => ?_)
          split at h2
          · rename_i b _
            simp only [VR] at f6 r2
            subst f6; subst r2
            refine hrd _ _ _ _ ?_
            split at h2
            · rename_i s3 e3
              obtain ⟨p', c', dx', fs', y1, y2, y3, y4, y5, y6⟩ := wsetf_ok (vv := .int (g a b)) sr2 (r1.mono g2) (by simp only [VR]) e3
              rw [f1] at y1
              cases y1
              have : c' = c := by simpa using y3
              subst this
              exact ⟨dx', fs', y2, y4, h2 ρ2 _ σ y5 y6 (((er.mono g1).mono g2).mono y5)⟩
            · exact h2.elim
          · exact h2.elim
        · exact h1.elim
      · exact h1.elim
    · exact h1.elim
  · exact h1.elim
end
end Mi
namespace Mi
open PySem PySem.Spec PyProof.Rows L2
/-! ### a dict that is walked -/
def keyW : Key → W
  | .inl i => .int i
  | .inr x => .str x
def unlk (n : Nat) (st : Sto) : Option Sto := match st[n]? with
  | some (.lk ks) => some (st.set n (.dk ks))
  | _ => none
def mLock (m : M W) (k : M W) : M W := fun env st => match m env st with
  | .ok o _ => match nodD st o with
    | some (n, kvs) => match k env (st.set n (.lk kvs)) with
      | .ok w s => match unlk n s with
        | some s2 => .ok w s2
        | none => .stuck
      | _ => .stuck
    | none => .stuck
  | _ => .stuck
def lkOf (st : Sto) : W → Option (Nat × List (Key × W))
  | .ref n => match st[n]? with
    | some (.lk ks) => some (n, ks)
    | _ => none
  | _ => none
def iKv (m : M W) : MI := fun env st => (m env st).bind fun w s => match lkOf s w with
  | some (_, ks) => .ok (fixS (ks.map fun p => .tup [keyW p.1, p.2])) s
  | none => .stuck
section
variable {K : PySem.W.Frag} {T : Nat → Addr} {ρ ρ' η : List Addr} {H H' : Hp} {st st' : Sto}
theorem nodd_get {st : Sto} {o : W} {n : Nat} {kvs : List (Key × W)} (e : nodD st o = some (n, kvs)) : st[n]? = some (.dk kvs) := by
  unfold nodD at e
  split at e
  · split at e
    · cases e
      assumption
    · cases e
  · cases e
/-- the place n is locked -/
theorem lock_in {n : Nat} {kvs : List (Key × W)} (s : SR K T ρ η st H) (e : st[n]? = some (.dk kvs)) :
    ∃ (d : Addr) (kv : List (Key × V)), ρ[n]? = some d ∧ H d = some (.dK kv) ∧ KVs K ρ η H kvs kv ∧ ∀ od, Grow ρ H ρ (upd H d (.frz od (.dK kv))) ∧ SR K T ρ η (st.set n (.lk kvs)) (upd H d (.frz od (.dK kv))) := by
  have hn : n < ρ.length := by rw [s.len]; exact (List.getElem?_eq_some_iff.mp e).1
  have hd : ρ[n]? = some ρ[n] := List.getElem?_eq_getElem hn
  obtain ⟨kv, e2, e3, e4⟩ := s.at_ n _ _ e hd
  refine ⟨ρ[n], kv, hd, e2, ⟨e3, e4⟩, fun od => ?_⟩
  have op : Open H ρ[n] := open_of e2 fun _ _ z => nomatch z
  have g : Grow ρ H ρ (upd H ρ[n] (.frz od (.dK kv))) := Grow.write (List.mem_of_getElem? hd) op
  exact ⟨g, s.write op hd ⟨od, kv, upd_same, e3, e4.mono g⟩⟩
/-- .. and let go again -/
theorem lock_out {n : Nat} {d : Addr} {od : Obj} {kv : List (Key × V)} {s2 : Sto} (hd : ρ[n]? = some d) (e0 : H d = some (.dK kv)) (g : Grow ρ (upd H d (.frz od (.dK kv))) ρ' H') (s : SR K T ρ' η st' H') (e : unlk n st' = some s2) :
    H' d = some (.frz od (.dK kv)) ∧ Grow ρ H ρ' (upd H' d (.dK kv)) ∧ SR K T ρ' η s2 (upd H' d (.dK kv)) ∧ ∀ w v, VR K ρ' η H' w v → VR K ρ' η (upd H' d (.dK kv)) w v := by
  have f : H' d = some (.frz od (.dK kv)) := g.frz d od _ upd_same
  have hd' : ρ'[n]? = some d := g.at hd
  have md : d ∈ ρ' := List.mem_of_getElem? hd'
  unfold unlk at e
  split at e
  · rename_i ks q
    cases e
    -- what stands elsewhere
    have keepV : ∀ {w : W} {v : V}, VR K ρ' η H' w v → VR K ρ' η (upd H' d (.dK kv)) w v := by
      have gx : ∀ a o, a ∉ ρ' → H' a = some o → (upd H' d (.dK kv)) a = some o := fun a o na h => by rw [upd_ne (fun z => na (by rw [z]; exact md))]; exact h
      have tp : ∀ {a vs}, TupAt K ρ' η H' a vs → TupAt K ρ' η (upd H' d (.dK kv)) a vs := fun {a vs} h => by
        rcases h with ⟨h1, h2, h3⟩ | h
        · refine .inl ⟨h1, h2, ?_⟩
          rcases h3 with h3 | ⟨o, h3⟩
          · exact .inl (gx _ _ h1 h3)
          · exact .inr ⟨o, gx _ _ h1 h3⟩
        · exact .inr h
      have lp : ∀ {a vs}, LstAt K ρ' η H' a vs → LstAt K ρ' η (upd H' d (.dK kv)) a vs := fun {a vs} h => by
        rcases h with ⟨h1, h2, h3⟩ | h
        · refine .inl ⟨h1, h2, ?_⟩
          rcases h3 with h3 | ⟨o, h3⟩
          · exact .inl (gx _ _ h1 h3)
          · exact .inr ⟨o, gx _ _ h1 h3⟩
        · exact .inr h
      intro w v h
      -- by what the value is made of
      have both : ∀ k, (∀ w v, sizeOf w ≤ k → VR K ρ' η H' w v → VR K ρ' η (upd H' d (.dK kv)) w v) ∧ (∀ (ws : List W) vs, sizeOf ws ≤ k → VRs K ρ' η H' ws vs → VRs K ρ' η (upd H' d (.dK kv)) ws vs) := by
        intro k
        induction k with
        | zero =>
          refine ⟨fun w v z _ => ?_, fun ws vs z _ => ?_⟩
          · cases w <;> simp at z <;> omega
          · cases ws <;> simp at z <;> omega
        | succ k ih =>
          refine ⟨fun w v z h => ?_, fun ws vs z h => ?_⟩
          · cases w with
            | tup xs =>
              simp only [VR] at h ⊢
              obtain ⟨a, us, e1, e2, e3⟩ := h
              exact ⟨a, us, e1, tp e2, ih.2 xs us (by simp at z; omega) e3⟩
            | lst xs =>
              simp only [VR] at h ⊢
              obtain ⟨a, us, e1, ⟨t1, t2, t3⟩, e3⟩ := h
              exact ⟨a, us, e1, ⟨t1, t2, gx _ _ t1 t3⟩, ih.2 xs us (by simp at z; omega) e3⟩
            | scr xs =>
              simp only [VR] at h ⊢
              obtain ⟨a, us, e1, e2, e3⟩ := h
              exact ⟨a, us, e1, lp e2, ih.2 xs us (by simp at z; omega) e3⟩
            | fn f0 ρ0 η0 H0 =>
              simp only [VR] at h ⊢
              refine ⟨h.1, h.2.1, fun a o h1 h2 h3 n => ?_⟩
              obtain ⟨x1, x2, x3⟩ := h.2.2 a o h1 h2 h3 n
              exact ⟨x1, x2, gx _ _ x1 x3⟩
            | _ => simpa only [VR] using h
          · cases ws with
            | nil => simpa only [VRs] using h
            | cons x xs =>
              simp only [VRs] at h ⊢
              obtain ⟨a, us, e1, e2, e3⟩ := h
              exact ⟨a, us, e1, ih.1 x a (by simp at z; omega) e2, ih.2 xs us (by simp at z; omega) e3⟩
      exact (both (sizeOf w)).1 w v (Nat.le_refl _) h
    have keepVs : ∀ {ws : List W} {vs : List V}, VRs K ρ' η H' ws vs → VRs K ρ' η (upd H' d (.dK kv)) ws vs := by
      intro ws
      induction ws with
      | nil => intro vs h; simpa only [VRs] using h
      | cons x xs ih =>
        intro vs h
        simp only [VRs] at h ⊢
        obtain ⟨a, us, e1, e2, e3⟩ := h
        exact ⟨a, us, e1, keepV e2, ih e3⟩
    refine ⟨f, ⟨?_, fun a o na h no => ?_, fun a o h no => ?_, fun a o u h => ?_⟩, ⟨s.nd, by simp [s.len], s.hid, fun a ha => ?_, fun i m a e1 e2 => ?_⟩, fun w v h => keepV h⟩
    · obtain ⟨t, e, ht⟩ := g.pre
      refine ⟨t, e, fun a ha => ?_⟩
      have z := ht a ha
      intro o e
      by_cases q : a = d
      · exact (z.not (by rw [q, upd_same]) rfl).elim
      · exact z o (by rw [upd_ne q]; exact e)
    · have ne : a ≠ d := fun z => na (by rw [z]; exact List.mem_of_getElem? hd)
      rw [upd_ne ne]
      exact g.same a o na (by rw [upd_ne ne]; exact h) no
    · by_cases ne : a = d
      · exact ⟨_, by rw [ne, upd_same], rfl⟩
      · obtain ⟨o', k, nk⟩ := g.all a o (by rw [upd_ne ne]; exact h) no
        exact ⟨o', by rw [upd_ne ne]; exact k, nk⟩
    · have ne : a ≠ d := fun z => by rw [z, e0] at h; cases h
      rw [upd_ne ne]
      exact g.frz a o u (by rw [upd_ne ne]; exact h)
    · by_cases ne : a = d
      · exact ⟨_, by rw [ne, upd_same], rfl⟩
      · obtain ⟨o', k, pk⟩ := s.has a ha
        exact ⟨o', by rw [upd_ne ne]; exact k, pk⟩
    · rw [List.getElem?_set] at e1
      split at e1
      · rename_i z
        subst z
        rw [hd'] at e2
        cases e2
        split at e1
        · cases e1
          obtain ⟨od', kv', k1, k2, k3⟩ := s.at_ n _ _ q hd'
          rw [f] at k1
          cases k1
          exact ⟨kv, upd_same, k2, keepVs k3⟩
        · cases e1
      · rename_i z
        have ne : a ≠ d := by
          rintro rfl
          obtain ⟨b1, c1⟩ := List.getElem?_eq_some_iff.mp hd'
          obtain ⟨b2, c2⟩ := List.getElem?_eq_some_iff.mp e2
          exact z ((List.getElem_inj s.nd).mp (c1.trans c2.symm))
        have k := s.at_ i m a e1 e2
        cases m with
        | lst xs => obtain ⟨vs, z, r⟩ := k; exact ⟨vs, by rw [upd_ne ne]; exact z, keepVs r⟩
        | dk kvs => obtain ⟨kv', z, q, r⟩ := k; exact ⟨kv', by rw [upd_ne ne]; exact z, q, keepVs r⟩
        | lk kvs => obtain ⟨od', kv', z, q, r⟩ := k; exact ⟨od', kv', by rw [upd_ne ne]; exact z, q, keepVs r⟩
        | ins c fs => obtain ⟨dx, fv, z, q, r⟩ := k; exact ⟨dx, fv, by rw [upd_ne ne]; exact z, q, keepVs r⟩
        | tb p q =>
          obtain ⟨e0, ps, h1, h2, h3⟩ := k
          refine ⟨e0, ps, by rw [upd_ne ne]; exact h1, h2, fun pos cv z => ?_⟩
          obtain ⟨c, c1, c2, c3, c4⟩ := h3 pos cv z
          exact ⟨c, c1, c2, c3, by rw [upd_ne (fun y => c2 (by rw [y]; exact List.mem_of_getElem? hd'))]; exact c4⟩
  · cases e
end
section
variable {X : Cx} {T : Nat → Addr} {Wx : WX'} {pos : Pos}
theorem se_lock {e : Expr} {m k : M W} (h : SE X T Wx e k) : SE X T Wx e (mLock m k) := by
  intro ρ η st env σ H Q s er q
  unfold mLock at q
  split at q
  · rename_i o s0 e0
    split at q
    · rename_i n kvs e1
      obtain ⟨d, kv, h1, h2, h3, h4⟩ := lock_in s (nodd_get e1)
      refine ⟨_, pe_lock pe_S, ?_⟩
      refine ⟨d, .dK kv, h2, True.intro, fun od => ?_⟩
      obtain ⟨g1, s1⟩ := h4 od
      refine h ρ η _ env σ _ _ s1 (er.mono g1) ?_
      cases e2 : k env (st.set n (.lk kvs)) with
      | ok w2 st2 =>
        rw [e2] at q
        dsimp only at q
        cases e3 : unlk n st2 with
        | none => rw [e3] at q; exact q.elim
        | some s3 =>
          rw [e3] at q
          intro ρ2 H2 v2 g2 sr2 r2
          obtain ⟨f1, f2, f3, f4⟩ := lock_out h1 h2 g2 sr2 e3
          exact ⟨f1, q ρ2 _ v2 f2 f3 (f4 w2 v2 r2)⟩
      | ex x st2 => rw [e2] at q; exact q.elim
      | stuck => rw [e2] at q; exact q.elim
    · exact q.elim
  · exact q.elim
theorem lk_ok {ρ η : List Addr} {H : Hp} {st : Sto} {w : W} {v : V} {n : Nat} {ks : List (Key × W)} (s : SR X.K T ρ η st H) (r : VR X.K ρ η H w v) (e : lkOf st w = some (n, ks)) : ∃ d od kv, v = .ref d ∧ H d = some (.frz od (.dK kv)) ∧ KVs X.K ρ η H ks kv := by
  cases w with
  | ref j =>
    simp only [lkOf] at e
    split at e
    · rename_i ys q
      cases e
      obtain ⟨a, h1, h0, od, kv, h2, h3, h4⟩ := node_at s r q
      exact ⟨a, od, kv, h1, h2, h3, h4⟩
    · cases e
  | _ => simp [lkOf] at e
theorem keyW_ok {ρ η : List Addr} {H : Hp} (k : Key) : VR X.K ρ η H (keyW k) (kV k) := by
  cases k <;> simp only [keyW, kV, VR]
theorem KVs.get {K : PySem.W.Frag} {ρ η : List Addr} {H : Hp} : ∀ {kvs : List (Key × W)} {kv : List (Key × V)} {i : Nat} {k : Key} {w : W}, KVs K ρ η H kvs kv → kvs[i]? = some (k, w) → ∃ v, kv[i]? = some (k, v) ∧ VR K ρ η H w v
  | [], kv, i, k, w, h, e => by simp at e
  | (a, u) :: kvs, kv, i, k, w, h, e => by
    obtain ⟨v, r, e1, h1, h2⟩ := h.cons'
    subst e1
    cases i with
    | zero =>
      simp at e
      obtain ⟨e2, e3⟩ := e
      subst e2; subst e3
      exact ⟨v, rfl, h1⟩
    | succ i =>
      obtain ⟨v', e2, e3⟩ := KVs.get h2 (by simpa using e)
      exact ⟨v', by simpa using e2, e3⟩
theorem KVs.more {K : PySem.W.Frag} {ρ ρ' η η' : List Addr} {H H' : Hp} {kvs : List (Key × W)} {kv : List (Key × V)} (g : Grow ρ H ρ' H') (k : Hid η H η') (h : KVs K ρ η H kvs kv) : KVs K ρ' η' H' kvs kv := ⟨h.1, h.2.more g k⟩
theorem si_items {l : Expr} {m : M W} {apos cpos tpos : Pos} {elts : List Expr} {kk : Nat} (h : SE X T Wx l m) (hb : attributeBase l "items" X.env (eval l X.env) = eval l X.env := by rfl) (hl : (apos.endLine == cpos.line) = true := by rfl) :
    SI X T Wx (.Tuple elts kk tpos) (.Call (.Attribute l "items" apos) [] [] cpos) (iKv m) := by
  intro ρ η st env σ H Q s er q
  refine ⟨_, pi_items pe_S hb hl, ?_⟩
  refine h ρ η st env σ H _ s er (q.bind fun w s1 ρ1 H1 v g1 sr1 r1 h1 => ?_)
  split at h1
  · rename_i n ks e
    obtain ⟨d, od, kv, e1, e2, e3⟩ := lk_ok sr1 r1 e
    refine ⟨d, od, kv, e1, e2, h1.ok sr1 ?_⟩
    intro η' k i ρ' H' st' g sr
    have f := g.frz d od _ e2
    show match some (ks.map fun p => W.tup [keyW p.1, p.2])[i]? with | some (some w) => _ | some none => _ | none => _
    rw [List.getElem?_map]
    cases z : ks[i]? with
    | none => exact ⟨f, by rw [e3.len]; exact List.getElem?_eq_none_iff.mp z⟩
    | some p =>
      obtain ⟨a, u⟩ := p
      obtain ⟨v', z1, z2⟩ := e3.get z
      refine ⟨⟨f, by exact (List.getElem?_eq_some_iff.mp z1).1⟩, fun x H2 y => ?_⟩
      obtain ⟨TT, k', v2, y2, y3, y4, y5⟩ := y
      rw [z1] at y2
      cases y2
      subst y3; subst y5
      refine ⟨Grow.new y4, sr.new' y4, ?_⟩
      simp only [VR]
      exact ⟨TT, _, rfl, .inl ⟨sr.fresh y4, sr.freshH y4, .inl upd_same⟩, VRs.cons (keyW_ok a) (VRs.cons ((z2.more g k).mono (Grow.new y4)) VRs.nil)⟩
  · exact h1.elim
/-! ### enumerate, zip -/
def enumW (s : Src) : Src := ⟨s.fuel, fun i st => match s.at_ i st with
  | some (some w) => some (some (.tup [.int i, w]))
  | some none => some none
  | none => none⟩
def srcOf (st : Sto) : W → Option Src
  | .lst xs => some (fixS xs)
  | .scr xs => some (fixS xs)
  | .ref n => match st[n]? with
    | some (.lst xs) => some (nodS n xs.length)
    | _ => none
  | _ => none
def iE (m : M (List W)) : MI := fun env st => (m env st).bind fun ws s => match ws with
  | [w] => match srcOf s w with
    | some src => .ok (enumW src) s
    | none => .stuck
  | _ => .stuck
end
end Mi
namespace Mi
open PySem PySem.Spec PyProof.Rows L2
/-! ### dicts made of dicts, of pairs -/
def mergeKW (kvs more : List (Key × W)) : List (Key × W) := more.foldl (fun acc kv => putKW acc kv.1 kv.2) kvs
def pairsW : List W → Option (List (Key × W))
  | [] => some []
  | .tup [k, w] :: r => match keyOf k, pairsW r with
    | some k, some ps => some ((k, w) :: ps)
    | _, _ => none
  | _ => none
def newD (kvs : List (Key × W)) (st : Sto) : Rs W := .ok (.ref st.length) (st ++ [.dk kvs])
def fDict : FC := fun ws st => match ws with
  | [w] => match dkOf st w with
    | some kvs => newD kvs st
    | none => match seqL st w with
      | some xs => match pairsW xs with
        | some ps => newD (mergeKW [] ps) st
        | none => .stuck
      | none => .stuck
  | _ => .stuck
section
variable {X : Cx} {T : Nat → Addr} {ρ η : List Addr} {H : Hp} {st : Sto}
theorem newD_ok {kvs : List (Key × W)} {kv : List (Key × V)} {p : Addr} {Q : V → Hp → Prop} {E : Value → Option Addr → Hp → Prop} (h : After X.K T η (fun ρ H => VR X.K ρ η H) ρ H (newD kvs st) Q E) (s : SR X.K T ρ η st H) (r : KVs X.K ρ η H kvs kv) (n : H p = none) : Q (.ref p) (upd H p (.dK kv)) := by
  unfold newD at h
  have r' := r.mono (Grow.node (o := .dK kv) n)
  refine h (ρ ++ [p]) _ _ (Grow.node n) (s.node n ⟨kv, upd_same, r'.1, r'.2⟩) ?_
  simp only [VR]
  exact ⟨p, by rw [← s.len, List.getElem?_append_right (Nat.le_refl _)]; simp, rfl⟩
theorem KVs.merge : ∀ {more : List (Key × W)} {kw : List (Key × V)} {kvs : List (Key × W)} {kv : List (Key × V)}, KVs X.K ρ η H more kw → KVs X.K ρ η H kvs kv → KVs X.K ρ η H (mergeKW kvs more) (mergeK kv kw)
  | [], kw, kvs, kv, h, k => by
    rw [h.nil']
    exact k
  | (a, w) :: more, kw, kvs, kv, h, k => by
    obtain ⟨v, r, e, h1, h2⟩ := h.cons'
    subst e
    show KVs X.K ρ η H (mergeKW (putKW kvs a w) more) (mergeK (putK kv a v) r)
    exact KVs.merge h2 (k.put h1)
theorem pairs_ok : ∀ {xs : List W} {vs : List V} {ps : List (Key × W)}, VRs X.K ρ η H xs vs → pairsW xs = some ps → ∃ (as : List Addr) (kvs : List (Key × V)), vs = as.map V.ref ∧ Paired (fun p kv => SqT X.K H p [kV kv.1, kv.2]) as kvs ∧ KVs X.K ρ η H ps kvs
  | [], vs, ps, r, e => by
    simp only [VRs] at r
    simp only [pairsW, Option.some.injEq] at e
    subst r; subst e
    exact ⟨[], [], rfl, .nil, rfl, VRs.nil⟩
  | x :: xs, vs, ps, r, e => by
    unfold pairsW at e
    split at e
    · cases ‹x :: xs = []›
    · rename_i k w r' heq
      injection heq with h1 h2
      subst h1; subst h2
      split at e
      · rename_i kk pp q1 q2
        cases e
        simp only [VRs] at r
        obtain ⟨v, rr, e1, r1, e9⟩ := r
        simp only [VR, VRs] at r1
        obtain ⟨a, us, e2, e3, k1, u1, e4, e5, w1, u2, e6, e7, e8⟩ := r1
        obtain ⟨as, kvs, f1, f2, f3⟩ := pairs_ok e9 q2
        have e5' : VR X.K ρ η H k k1 := e5
        have z := key_ok e5' q1
        subst e1; subst e2; subst e8; subst e6; subst e4; subst f1; subst z
        exact ⟨a :: as, (kk, w1) :: kvs, rfl, .cons e3.sq f2, KVs.mk' e7 f3⟩
      · cases e
    · cases e
theorem okc_dict : OkC X.K T fDict (fun xs H Q => (∃ (a : Addr) (ps : List Addr) (kvs : List (Key × V)), xs = [.ref a] ∧ SqL X.K H a (ps.map V.ref) ∧ Paired (fun p kv => SqT X.K H p [kV kv.1, kv.2]) ps kvs ∧ ∀ p, H p = none → Q (.ref p) (upd H p (.dK (mergeK [] kvs)))) ∨
    ∃ (a : Addr) (kvs : List (Key × V)), xs = [.ref a] ∧ Rd H a (.dK kvs) ∧ ∀ p, H p = none → Q (.ref p) (upd H p (.dK kvs))) := by
  intro ρ η st H ws vs Q E s r h
  unfold fDict at h
  split at h
  · rename_i w
    obtain ⟨v, e, r1⟩ := vrs1 r
    split at h
    · rename_i kvs q
      obtain ⟨a, kv, e1, e2, e3, e4⟩ := dk_ok s r1 q
      subst e1
      exact .inr ⟨a, kv, e, e2, fun p hp => newD_ok h s ⟨e3, e4⟩ hp⟩
    · split at h
      · rename_i xs q
        obtain ⟨a, us, e1, e2, e3⟩ := seq_ok s r1 q
        split at h
        · rename_i ps q2
          obtain ⟨as, kvs, f1, f2, f3⟩ := pairs_ok e3 q2
          subst e1; subst f1
          exact .inl ⟨a, as, kvs, e, e2, f2, fun p hp => newD_ok h s (KVs.merge f3 ⟨rfl, VRs.nil⟩) hp⟩
        · exact h.elim
      · exact h.elim
  · exact h.elim
/-! ### equal dicts of flat things -/
def eqDW (ks ls : List (Key × W)) : Bool := decide (ks.length = ls.length) && ks.all fun p => match scalV p.2, (lkW ls p.1).bind scalV with
  | some x, some y => decide (x = y)
  | _, _ => false
def wEqD (b : Bool) : F2 := fun x y st => match nodD st x, nodD st y with
  | some (_, ks), some (_, ls) => if eqDW ks ls = true then .ok (.bl b) st else .stuck
  | _, _ => .stuck
theorem scalB {w : W} {x : V} (e : scalV w = some x) : flatB x = true := by
  cases w <;> simp [scalV] at e <;> subst e <;> rfl
theorem eqDW_ok {ks ls : List (Key × W)} {kv lv : List (Key × V)} (h1 : KVs X.K ρ η H ks kv) (h2 : KVs X.K ρ η H ls lv) (e : eqDW ks ls = true) : kv.length = lv.length ∧ ∀ p ∈ kv, valV lv p.1 = some p.2 ∧ flatB p.2 = true := by
  unfold eqDW at e
  rw [Bool.and_eq_true] at e
  obtain ⟨e1, e2⟩ := e
  refine ⟨by rw [h1.len, h2.len]; simpa using e1, ?_⟩
  have go : ∀ {ks : List (Key × W)} {kv : List (Key × V)}, KVs X.K ρ η H ks kv → (ks.all fun p => match scalV p.2, (lkW ls p.1).bind scalV with | some x, some y => decide (x = y) | _, _ => false) = true → ∀ p ∈ kv, valV lv p.1 = some p.2 ∧ flatB p.2 = true := by
    intro ks
    induction ks with
    | nil => intro kv h _ p hp; rw [h.nil'] at hp; cases hp
    | cons q ks ih =>
      intro kv h e p hp
      obtain ⟨a, w⟩ := q
      obtain ⟨v, r, f1, f2, f3⟩ := h.cons'
      subst f1
      rw [List.all_cons, Bool.and_eq_true] at e
      rcases List.mem_cons.mp hp with z | z
      · subst z
        have e1 := e.1
        split at e1
        · rename_i x y q1 q2
          dsimp only at q1 q2
          rcases kv_find (k := a) h2.1 h2.2 with ⟨y1, y2⟩ | ⟨u, u', y1, y2, y3⟩
          · rw [y1] at q2; cases q2
          · rw [y1] at q2
            have e3 : scalV u = some y := q2
            have := scal_ok f2 q1
            have := scal_ok y3 e3
            simp only [decide_eq_true_eq] at e1
            subst v; subst u'; subst e1
            exact ⟨y2, scalB q1⟩
        · cases e1
      · exact ih f3 e.2 p z
  exact go h1 e2
theorem ok_neD : OkR X.K T (wEqD false) rNeDA := by
  intro ρ η st H a b x y Q E s ha hb h
  unfold wEqD at h
  split at h
  · rename_i i ks j ls q1 q2
    obtain ⟨p, kv, e1, _, e3, e4⟩ := nodd_ok s ha q1
    obtain ⟨p2, lv, f1, _, f3, f4⟩ := nodd_ok s hb q2
    split at h
    · rename_i z
      obtain ⟨y1, y2⟩ := eqDW_ok e4 f4 z
      exact ⟨p, p2, kv, lv, e1, f1, e3, f3, y1, y2, h.ok s (by simp only [VR])⟩
    · exact h.elim
  · exact h.elim
end
/-! ### {k: v for ..} -/
def compD (s : Src) (t : CT) (cond : M Bool) (mk mv : M W) (env : Ev) : Nat → Nat → List (Key × W) → Sto → Rs (List (Key × W))
  | 0, _, _, _ => .stuck
  | n + 1, i, acc, st => match s.at_ i st with
    | some (some w) => match t.put w env with
      | some env1 => match cond env1 st with
        | .ok true st1 => match mk env1 st1 with
          | .ok k st2 => match mv env1 st2 with
            | .ok v st3 => match keyOf k with
              | some k => if acc.length < sizeLine then compD s t cond mk mv env n (i + 1) (putKW acc k v) st3 else .stuck
              | none => .stuck
            | _ => .stuck
          | _ => .stuck
        | .ok false st1 => compD s t cond mk mv env n (i + 1) acc st1
        | _ => .stuck
      | none => .stuck
    | some none => .ok acc st
    | none => .stuck
def mDcomp (mi : MI) (vs : List Nat) (t : CT) (cond : M Bool) (mk mv : M W) : M W := fun env st => (mi env st).bind fun s st1 => (compD s t cond mk mv (wipeW env vs) s.fuel 0 [] st1).bind fun kvs st2 => newD kvs st2
section
variable {X : Cx} {T : Nat → Addr} {Wx : WX'} {pos : Pos}
theorem KVs.hid {K : PySem.W.Frag} {ρ η : List Addr} {H : Hp} {D : Addr} {o : HO} (n : D ∈ η) {kvs : List (Key × W)} {kv : List (Key × V)} (h : KVs K ρ η H kvs kv) : KVs K ρ η (L2.upd H D o) kvs kv := ⟨h.1, h.2.hid n⟩
theorem se_dcomp {kx vx tg iter : Expr} {ifs : List Expr} {scope : Scope} {own : List (Str × Nat)} {mi : MI} {t : CT} {cond : M Bool} {mk mv : M W} (hc : X.calm = true) (hN : X.N.Nodup) (hi : SI X T Wx tg iter mi) (ok : BlkOk X.N X.env.scope scope own)
    (hv : ∀ i ∈ t.ix, i ∈ own.map (fun p : Str × Nat => p.2))
    (hg : ∀ (s : Shared) (H : Hp) (C : Addr) (cl : List (Str × Addr)) (fp : List Addr), PG (X.blk s H scope (compEnvC scope cl C X.env) fp) tg (t.tg X.K))
    (ht : (ifs = [] ∧ cond = mYes) ∨ ∃ c, ifs = [c] ∧ ∀ (s : Shared) (H : Hp) (C : Addr) (cl : List (Str × Addr)) (fp : List Addr), STt (X.blk s H scope (compEnvC scope cl C X.env) fp) T W0 c cond)
    (hk : ∀ (s : Shared) (H : Hp) (C : Addr) (cl : List (Str × Addr)) (fp : List Addr), SE (X.blk s H scope (compEnvC scope cl C X.env) fp) T W0 kx mk)
    (hw : ∀ (s : Shared) (H : Hp) (C : Addr) (cl : List (Str × Addr)) (fp : List Addr), SE (X.blk s H scope (compEnvC scope cl C X.env) fp) T W0 vx mv) (hs : ∀ x, foldedSetIterable iter X.env x = pure x := by intro _; rfl) :
    SE X T Wx (.DictComp kx vx [⟨tg, iter, ifs, 0⟩] scope pos) (mDcomp mi (own.map (fun p : Str × Nat => p.2)) t cond mk mv) := by
  intro ρ η st env σ H Q s er q
  let tt : TT := fun σ H Q => ∀ (s : Shared) (G : Hp) (C : Addr) (cl : List (Str × Addr)) (fp : List Addr), (∃ u, PTs (X.blk s G scope (compEnvC scope cl C X.env) fp) ifs u ∧ u σ H Q)
  let tk : TE := fun σ H Q => ∀ (s : Shared) (G : Hp) (C : Addr) (cl : List (Str × Addr)) (fp : List Addr), (∃ u, PE (X.blk s G scope (compEnvC scope cl C X.env) fp) kx u ∧ u σ H Q)
  let te : TE := fun σ H Q => ∀ (s : Shared) (G : Hp) (C : Addr) (cl : List (Str × Addr)) (fp : List Addr), (∃ u, PE (X.blk s G scope (compEnvC scope cl C X.env) fp) vx u ∧ u σ H Q)
  refine ⟨_, pe_dc (tt := tt) (tk := tk) (tv := te) hc hN pi_S ok hg (fun s G C cl fp => ⟨fun pins s' σ' H' Q' I h => ?_⟩) (fun s G C cl fp => ⟨fun pins s' σ' H' Q' I h => ?_⟩) (fun s G C cl fp => ⟨fun pins s' σ' H' Q' I h => ?_⟩) hs, ?_⟩
  · obtain ⟨u, h1, h2⟩ := h s G C cl fp
    exact h1.run pins s' σ' H' Q' I h2
  · obtain ⟨u, h1, h2⟩ := h s G C cl fp
    exact h1.run pins s' σ' H' Q' I h2
  · obtain ⟨u, h1, h2⟩ := h s G C cl fp
    exact h1.run pins s' σ' H' Q' I h2
  refine hi ρ η st env σ H _ s er (q.bind fun src s1 ρ1 H1 J g1 sr1 ok1 h1 => ?_)
  intro D hD
  have D1 : Hid η H1 (D :: η) := hid_new hD
  have er0 : ER X.K ρ1 η H1 (wipeW env (own.map (fun p : Str × Nat => p.2))) (wipe σ (own.map (fun p : Str × Nat => p.2))) := (er.mono g1).wipe _
  -- what holds between two turns
  let G : Nat → Nat → Hp → Prop := fun i n H' => ∃ (ρ' : List Addr) (st' : Sto) (acc : List (Key × W)) (accv : List (Key × V)), Grow ρ1 H1 ρ' H' ∧ SR X.K T ρ' (D :: η) st' H' ∧ H' D = some (.dK accv) ∧ KVs X.K ρ' (D :: η) H' acc accv ∧
      After X.K T η (fun ρ H => VR X.K ρ η H) ρ1 H1 ((compD src t cond mk mv (wipeW env (own.map (fun p : Str × Nat => p.2))) n i acc st').bind fun kvs st2 => newD kvs st2) Q (fun c d H' => Wx c d σ H')
  refine ⟨G, ⟨src.fuel, ρ1, s1, [], [], Grow.new hD, sr1.hide hD, upd_same, ⟨rfl, VRs.nil⟩, h1⟩, ?_⟩
  rintro i n H2 ⟨ρ2, st2, acc, accv, g2, sr2, hD2, rac, h2⟩
  cases n with
  | zero => exact h2.elim
  | succ n =>
    have k := ok1 (D :: η) D1 i ρ2 H2 st2 g2 sr2
    unfold compD at h2
    split at h2
    · rename_i w e
      rw [e] at k
      obtain ⟨k1, k2⟩ := k
      refine .inr ⟨k1, G (i + 1) n, fun H' z => ⟨n, Nat.lt_succ_self n, z⟩, fun x H3 y => ?_⟩
      obtain ⟨g3, sr3, r3⟩ := k2 x H3 y
      have hD3 : H3 D = some (.dK accv) := g3.same D _ (sr2.hid D List.mem_cons_self) hD2
      split at h2
      · rename_i env4 e4
        refine ct_ok (vs := own.map (fun p : Str × Nat => p.2)) e4 r3 (er0.more (g2.trans g3) D1) hv fun σ4 er4 w4 => ?_
        rw [wipe_wipe] at w4
        refine ⟨w4, ?_⟩
        have step : ∀ (b : Bool) (st5 : Sto) (ρ5 : List Addr) (H5 : Hp), Grow ρ2 H3 ρ5 H5 → SR X.K T ρ5 (D :: η) st5 H5 →
            After X.K T η (fun ρ H => VR X.K ρ η H) ρ1 H1 ((match b with
              | true => (match mk env4 st5 with
                | .ok k st2 => match mv env4 st2 with
                  | .ok v st3 => match keyOf k with
                    | some k => if acc.length < sizeLine then compD src t cond mk mv (wipeW env (own.map (fun p : Str × Nat => p.2))) n (i + 1) (putKW acc k v) st3 else .stuck
                    | none => .stuck
                  | _ => .stuck
                | _ => .stuck)
              | false => compD src t cond mk mv (wipeW env (own.map (fun p : Str × Nat => p.2))) n (i + 1) acc st5).bind fun kvs st2 => newD kvs st2) Q (fun c d H' => Wx c d σ H') →
            (if b = true then tk σ4 H5 fun y H4 => te σ4 H4 fun z H5 => ∃ (kvs : List (Key × V)) (k : Key), y = kV k ∧ H5 D = some (.dK kvs) ∧ kvs.length < sizeLine ∧ G (i + 1) n (upd H5 D (.dK (putK kvs k z)))
            else G (i + 1) n H5) := by
          intro b st5 ρ5 H5 g5 sr5 h5
          have hD5 : H5 D = some (.dK accv) := g5.same D _ (sr3.hid D List.mem_cons_self) hD3
          have gA : Grow ρ1 H1 ρ5 H5 := (g2.trans g3).trans g5
          cases b with
          | false => exact iteF ⟨ρ5, st5, acc, accv, gA, sr5, hD5, (rac.mono g3).mono g5, h5⟩
          | true =>
            refine iteT ?_
            intro s' G' C cl fp
            refine hk s' G' C cl fp ρ5 (D :: η) st5 env4 σ4 H5 _ sr5 (er4.mono g5) ?_
            dsimp only at h5
            cases e6 : mk env4 st5 with
            | ok kw st6 =>
              rw [e6] at h5
              dsimp only at h5
              intro ρ6 H6 y g6 sr6 r6
              intro s'' G'' C' cl' fp'
              refine hw s'' G'' C' cl' fp' ρ6 (D :: η) st6 env4 σ4 H6 _ sr6 ((er4.mono g5).mono g6) ?_
              cases e7 : mv env4 st6 with
              | ok v st7 =>
                rw [e7] at h5
                dsimp only at h5
                split at h5
                · rename_i kk e8
                  split at h5
                  · rename_i lz
                    intro ρ7 H7 z g7 sr7 r7
                    have hD7 : H7 D = some (.dK accv) := g7.same D _ (sr6.hid D List.mem_cons_self) (g6.same D _ (sr5.hid D List.mem_cons_self) hD5)
                    have rac7 : KVs X.K ρ7 (D :: η) H7 acc accv := ((((rac.mono g3).mono g5).mono g6).mono g7)
                    refine ⟨accv, kk, key_ok r6 e8, hD7, by rw [rac7.len]; exact lz, ρ7, st7, putKW acc kk v, putK accv kk z, ((gA.trans g6).trans g7).hid hD, sr7.hid' List.mem_cons_self, upd_same, (rac7.put r7).hid List.mem_cons_self, h5⟩
                  · exact h5.elim
                · exact h5.elim
              | ex x s' => rw [e7] at h5; exact h5.elim
              | stuck => rw [e7] at h5; exact h5.elim
            | ex x s' => rw [e6] at h5; exact h5.elim
            | stuck => rw [e6] at h5; exact h5.elim
        rcases ht with ⟨z1, z2⟩ | ⟨c, z1, z2⟩
        · subst z2
          intro s' G' C cl fp
          refine ⟨tYes, by rw [z1]; exact pts_nil, ?_⟩
          exact step true st2 ρ2 H3 Grow.refl sr3 h2
        · intro s' G' C cl fp
          obtain ⟨u, hu1, hu2⟩ := z2 s' G' C cl fp ρ2 (D :: η) st2 env4 σ4 H3 (fun b H5 => if b = true then tk σ4 H5 fun y H4 => te σ4 H4 fun z H5 => ∃ (kvs : List (Key × V)) (k : Key), y = kV k ∧ H5 D = some (.dK kvs) ∧ kvs.length < sizeLine ∧ G (i + 1) n (upd H5 D (.dK (putK kvs k z)))
            else G (i + 1) n H5) sr3 er4 (by
            cases e6 : cond env4 st2 with
            | ok b st6 =>
              rw [e6] at h2
              intro ρ6 H6 b' g6 sr6 r6
              subst r6
              refine step b st6 ρ6 H6 g6 sr6 ?_
              cases b <;> exact h2
            | ex x s' => rw [e6] at h2; exact h2.elim
            | stuck => rw [e6] at h2; exact h2.elim)
          exact ⟨u, by rw [z1]; exact pts_one hu1, hu2⟩
      · exact h2.elim
    · rename_i e
      rw [e] at k
      refine .inl ⟨k, ?_⟩
      have h2 : After X.K T η (fun ρ H => VR X.K ρ η H) ρ1 H1 (newD acc st2) Q (fun c d H' => Wx c d σ H') := h2
      have nD : D ∉ η := fun z => by
        obtain ⟨o, e, _⟩ := sr1.has D z
        rw [hD] at e; cases e
      refine h2 (ρ2 ++ [D]) H2 _ (g2.shift hD) (sr2.shift nD ⟨accv, hD2, rac.1, rac.2.shift⟩) ?_
      simp only [VR]
      exact ⟨D, by rw [← sr2.len, List.getElem?_append_right (Nat.le_refl _)]; simp, rfl⟩
    · exact h2.elim
end
end Mi
namespace Mi
open PySem PySem.Spec PyProof.Rows L2
/-- what is not carried, or never reached -/
def sStk : MS := fun _ _ => .stuck
def sPar (i j : Nat) (ma mb : M W) : MS := fun env st => (ma env st).to env fun a s1 => (mb env s1).to env fun b s2 => .nx ((env.set i (some a)).set j (some b)) s2
section
variable {X : Cx} {T : Nat → Addr} {Wx : WX'} {pos : Pos}
theorem ss_stk {c : Stmt} : SSt X T Wx c sStk := fun _ _ _ _ _ _ _ _ _ h => h.elim
/-- a, b = e, f -/
theorem ss_par {i j : Nat} {x y : Str} {a b : Expr} {ma mb : M W} {px py pt : Pos} {kt k2 pt2} (hc : X.calm = true) (hN : X.N.Nodup) (hi : X.N[i]? = some x) (hj : X.N[j]? = some y) (hij : i ≠ j)
    (hx : X.env.scope.names.lookup x = some .local) (hy : X.env.scope.names.lookup y = some .local) (ha : SE X T Wx a ma) (hb : SE X T Wx b mb)
    (hw : swappedStores [.Tuple [.Name x px, .Name y py] kt pt] (.Tuple [a, b] k2 pt2) X.env = pure (some [x, y]))
    (hst : starEach [a, b] X.env = (false, eval a X.env) :: starEach [b] X.env := by rfl) (hst2 : starEach [b] X.env = (false, eval b X.env) :: starEach [] X.env := by rfl) :
    SSt X T Wx (.Assign [.Tuple [.Name x px, .Name y py] kt pt] (.Tuple [a, b] k2 pt2) pos) (sPar i j ma mb) := by
  intro ρ η st env σ H D s er q
  refine ⟨_, ps_par hc hN hi hj hij hx hy (pa_cons pe_S (pa_cons pe_S pa_nil hst2) hst) hw, ?_⟩
  refine ha ρ η st env σ H _ s er (q.bind er fun w s1 ρ1 H1 v _ g1 sr1 r1 h1 => ?_)
  refine hb ρ1 η s1 env σ H1 _ sr1 (er.mono g1) (h1.bind (er.mono g1) fun u s2 ρ2 H2 v2 _ g2 sr2 r2 h2 => ?_)
  exact ⟨v, v2, rfl, h2 ρ2 H2 _ Grow.refl sr2 ((((er.mono g1).mono g2).set (r1.mono g2)).set r2)⟩
end
/-! ### a text, sign by sign -/
def iS (m : M W) : MI := fun env st => (m env st).bind fun w s => match w with
  | .str z => .ok (fixS (z.cps.toList.map fun c => .str ⟨#[c]⟩)) s
  | _ => .stuck
theorem si_str {X : Cx} {T : Nat → Addr} {Wx : WX'} {tg l : Expr} {m : M W} (h : SE X T Wx l m) : SI X T Wx tg l (iS m) := by
  intro ρ η st env σ H Q s er q
  refine ⟨_, pi_str pe_S, ?_⟩
  refine h ρ η st env σ H _ s er (q.bind fun w s1 ρ1 H1 v g1 sr1 r1 h1 => ?_)
  split at h1
  · rename_i z
    simp only [VR] at r1
    refine ⟨z, r1, h1.ok sr1 ?_⟩
    intro η' k i ρ' H' st' g sr
    show match some (z.cps.toList.map fun c => W.str ⟨#[c]⟩)[i]? with | some (some w) => _ | some none => _ | none => _
    rw [List.getElem?_map]
    cases e : z.cps.toList[i]? with
    | none =>
      have := List.getElem?_eq_none_iff.mp e
      show z.cps.size ≤ i
      simpa using this
    | some c =>
      have hi := (List.getElem?_eq_some_iff.mp e).1
      refine ⟨by show i < z.cps.size; simpa using hi, fun x H2 y => ?_⟩
      obtain ⟨y1, c', y2, y3⟩ := y
      subst y1
      have : z.cps[i]? = some c := by rw [← Array.getElem?_toList]; exact e
      rw [y2] at this
      cases this
      exact ⟨Grow.refl, sr, by simp only [VR]; exact y3⟩
  · exact h1.elim
end Mi
namespace Mi
open PySem PySem.Spec PyProof.Rows L2
section
variable {X : Cx} {T : Nat → Addr} {Wx : WX'} {pos : Pos}
theorem se_tupA {es : List Expr} {k : M (List W)} {n : Nat} {x1} (h : SAn X T Wx n es k) (hn : n ≤ 1000 := by decide) : SE X T Wx (.Tuple es x1 pos) (mTup k) := se_tup h.run h.len hn
theorem se_lstA {fz : Bool} {es : List Expr} {k : M (List W)} {n : Nat} (h : SAn X T Wx n es k) (hn : n ≤ 1000 := by decide) : SE X T Wx (.List es pos) (mLst fz k) := se_lst h.run h.len hn
end
end Mi
/-! The mirror: try .. except X: of own classes; the clause's suite raises nothing. -/
namespace Mi
open PySem PySem.Spec PyProof.Rows L2
def calmS (r : SRs) : SRs := match r with
  | .ex _ _ _ => .stuck
  | r => r
/-- tb tells which of the classes that may come the clause takes -/
def sTry (tb : List (Nat × Bool)) (m k : MS) : MS := fun env st => match m env st with
  | .ex (.plain n) env1 st1 => match tb.lookup n with
    | some true => calmS (k env1 st1)
    | some false => .ex (.plain n) env1 st1
    | none => .stuck
  | r => r
theorem SAfter.calm {K : PySem.W.Frag} {T : Nat → Addr} {η ρ : List Addr} {H : Hp} {r : SRs} {D : Ends} {Wx Wy : WX'} (h : SAfter K T η ρ H (calmS r) D Wx) : SAfter K T η ρ H r D Wy := by
  cases r with
  | ex x env st => exact h.elim
  | nx env st => exact h
  | rt w st => exact h
  | bk env st => exact h
  | ct env st => exact h
  | stuck => exact h.elim
theorem lookup_mem {α : Type} : ∀ {tb : List (Nat × α)} {n : Nat} {b : α}, tb.lookup n = some b → (n, b) ∈ tb
  | (m, c) :: tb, n, b, h => by
    rw [List.lookup_cons] at h
    by_cases e : n = m
    · subst e
      simp at h
      subst h
      exact List.mem_cons_self
    · have e' : (n == m) = false := by simpa using e
      rw [e'] at h
      exact List.mem_cons_of_mem _ (lookup_mem h)
/-- what must be known of an own exception class, by the fragment alone -/
structure ExcF (K : PySem.W.Frag) (mg : Str → Option Value) (C : Addr) (x : Str) : Prop where
  ex : PySem.W.excIn K C [.type "ValueError", .type "Exception", .type "BaseException", .type "object"] "ValueError.__new__" = true
  mg : mg x = some (.ref C)
  kp : PySem.W.keepIn K (.ref C) = true
  sub : PySem.W.subIn K (.ref C) (.type "BaseException") = some true
  ty : PySem.W.typeIn K (.ref C) = some (.type "type")
theorem ExcF.ok {X : Cx} {C : Addr} {x : Str} (h : ExcF X.K X.mg C x) : ExcOk X C x := ⟨h.ex, h.mg, h.kp, h.sub, h.ty⟩
/-- an error of the class at A against the clause that names the class at C -/
theorem exm_by {K : PySem.W.Frag} {A C : Addr} {b : Bool} (hb : PySem.W.subIn K (.ref C) (.type "BaseException") = some true) (hi : PySem.W.isClsIn K C = true) (hy : PySem.W.typeIn K (.ref C) = some (.type "type")) (hs : PySem.W.subIn K (.ref A) (.ref C) = some b) : PySem.W.exmOne K (.ref A) (.ref C) = some b := by
  have hi2 : (PySem.W.clsIn K C).isSome = true := hi
  simp [PySem.W.exmOne, PySem.W.kitCls, hb, hi2, hy, hs]
end Mi
/-! enumerate of a tuple, from the library's draws -/
namespace PySem
open Sem (wp)
open AutoSeq1 (wpAny_loadPart')
end PySem
namespace Mi
open PySem PySem.Spec PyProof.Rows L2
end Mi
namespace Mi
open PySem PySem.Spec PyProof.Rows L2
/-! ### // by great divisors -/
def wDivW : F2 := fun a b st => match a, b with
  | .int i, .int j => if 0 < j ∧ j.natAbs.log2 < 9000 then .ok (.int (i / j)) st else .stuck
  | _, _ => .stuck
section
variable {K : PySem.W.Frag} {T : Nat → Addr}
end
section
variable {X : Cx} {T : Nat → Addr} {Wx : WX'} {pos : Pos}
/-! ### walks over lists and tuples -/
def iA (m : M W) : MI := fun env st => match m env st with
  | .ok (.tup _) _ => iT m env st
  | _ => iL m env st
theorem si_any {tg l : Expr} {m : M W} (h : SE X T Wx l m) : SI X T Wx tg l (iA m) := by
  intro ρ η st env σ H Q s er q
  unfold iA at q
  split at q
  · exact si_tup h ρ η st env σ H Q s er q
  · exact si_list h ρ η st env σ H Q s er q
def iET (m : M (List W)) : MI := fun env st => (m env st).bind fun ws s => match ws with
  | [.tup xs] => .ok (enumW (fixS xs)) s
  | _ => .stuck
def iEA (m : M (List W)) : MI := fun env st => match m env st with
  | .ok [.tup _] _ => iET m env st
  | _ => iE m env st
/-- reversed(x), x a list that stands still or a tuple -/
def iRv (m : M W) : MI := fun env st => (m env st).bind fun w s => match w with
  | .lst xs => .ok (fixS xs.reverse) s
  | .tup xs => .ok (fixS xs.reverse) s
  | _ => .stuck
/-! ### *e in a display -/
def mLstS (fz : Bool) (m : M (List W)) : M W := fun env st => (m env st).bind fun ws s1 => if ws.length ≤ sizeLine then newL fz ws s1 else .stuck
/-! ### isinstance with some types -/
/-! ### min, max of two -/
def fMin2 : FC := fun ws st => match ws with
  | [.int i, .int j] => .ok (.int (if j < i then j else i)) st
  | _ => .stuck
def fMax2 : FC := fun ws st => match ws with
  | [.int i, .int j] => .ok (.int (if j > i then j else i)) st
  | _ => .stuck
end
end Mi
/-! t[::-1] at the library's level -/
namespace HT
open PySem PySem.Spec PyProof.Rows
section
variable {prog : Program} {w : World} {A : Around} {E : Value → Shared → Prop} {s : Shared}
end
end HT
namespace Mi
open PySem PySem.Spec PyProof.Rows L2
section
variable {X : Cx} {T : Nat → Addr} {Wx : WX'} {pos : Pos}
/-! ### x[::-1] -/
def wRevA (fz : Bool) (a : W) (st : Sto) : Rs W := match seqL st a with
  | some xs => newL fz xs.reverse st
  | none => match a with
    | .tup xs => .ok (.tup xs.reverse) st
    | _ => .stuck
def mRev (fz : Bool) (m : M W) : M W := fun env st => (m env st).bind fun a s1 => wRevA fz a s1
/-! ### {k: v, ..} -/
def trsOf (X : Cx) : List (Option Expr) → List Expr → List (TE × TE)
  | some k :: ks, v :: vs => (tS X k, tS X v) :: trsOf X ks vs
  | _, _ => []
def kvsV (kvs : List (Key × V)) : List (V × V) := kvs.map fun kv => (kV kv.1, kv.2)
def SDp (X : Cx) (T : Nat → Addr) (pos : Pos) (Wx : WX') (ks : List (Option Expr)) (vs : List Expr) (m : M (List (Key × W))) : Prop := PPs X pos ks vs (trsOf X ks vs) ∧
  ∀ ρ η st env σ H (Q : List (V × V) → Hp → Prop), SR X.K T ρ η st H → ER X.K ρ η H env σ → After X.K T η (fun ρ H => KVs X.K ρ η H) ρ H (m env st) (fun kvs H' => Q (kvsV kvs) H') (fun c d H' => Wx c d σ H') →
    tPairs (trsOf X ks vs) σ H Q
def mPair (mk mv : M W) (mr : M (List (Key × W))) : M (List (Key × W)) := fun env st => (mk env st).bind fun k s1 => (mv env s1).bind fun v s2 => match keyOf k with
  | some k => (mr env s2).bind fun r s3 => .ok ((k, v) :: r) s3
  | none => .stuck
def mPair0 : M (List (Key × W)) := fun _ st => .ok [] st
theorem sd_nil : SDp X T pos Wx [] [] mPair0 := ⟨pps_nil, fun ρ η st env σ H Q s er h => by
  exact h ρ H [] Grow.refl s ⟨rfl, by simpa using VRs.nil⟩⟩
theorem sd_cons {k v : Expr} {ks : List (Option Expr)} {vs : List Expr} {mk mv : M W} {mr : M (List (Key × W))} (hk : SE X T Wx k mk) (hv : SE X T Wx v mv) (hr : SDp X T pos Wx ks vs mr) : SDp X T pos Wx (some k :: ks) (v :: vs) (mPair mk mv mr) := by
  refine ⟨pps_cons pe_S pe_S hr.1, fun ρ η st env σ H Q s er h => ?_⟩
  show tS X k σ H fun x H1 => tS X v σ H1 fun y H2 => tPairs (trsOf X ks vs) σ H2 fun ps H3 => Q ((x, y) :: ps) H3
  refine hk ρ η st env σ H _ s er (h.bind fun w s1 ρ1 H1 u g1 sr1 r1 h1 => ?_)
  refine hv ρ1 η s1 env σ H1 _ sr1 (er.mono g1) (h1.bind fun w2 s2 ρ2 H2 u2 g2 sr2 r2 h2 => ?_)
  split at h2
  · rename_i kk e
    have ek := key_ok (r1.mono g2) e
    subst ek
    exact hr.2 ρ2 η s2 env σ H2 _ sr2 ((er.mono g1).mono g2) (h2.bind fun r s3 ρ3 H3 kvs g3 sr3 r3 h3 => h3.ok sr3 (KVs.mk' (r2.mono g3) r3))
  · exact h2.elim
def mDisp (m : M (List (Key × W))) : M W := fun env st => match m env st with
  | .ok kvs s1 => if kvs.length ≤ 15 then newD (mergeKW [] kvs) s1 else .stuck
  | _ => .stuck
theorem se_disp {ks : List (Option Expr)} {vs : List Expr} {m : M (List (Key × W))} (h : SDp X T pos Wx ks vs m) (hall : ks.all (·.isSome) = true := by rfl) (hl : ks.length = vs.length := by rfl) (h0 : ks ≠ [] := by simp) (h15 : ks.length ≤ 15 := by decide) : SE X T Wx (.Dict ks vs pos) (mDisp m) := by
  intro ρ η st env σ H Q s er q
  refine ⟨_, pe_disp h.1 hall hl h0 h15, ?_⟩
  intro p hp
  have D1 : Hid η H (p :: η) := hid_new hp
  have g0 : Grow ρ H ρ (upd H p (.dK [])) := Grow.new hp
  refine h.2 ρ (p :: η) st env σ (upd H p (.dK [])) _ (s.hide hp) (er.more g0 D1) ?_
  unfold mDisp at q
  cases e : m env st with
  | ok kvs s1 =>
    rw [e] at q
    simp only at q
    split at q
    · rename_i hlen
      intro ρ' H' kv g sr r
      have hp' : H' p = some (.dK []) := g.same p _ (s.fresh hp) upd_same
      refine ⟨hp', kv, rfl, by rw [r.len]; exact hlen, ?_⟩
      have gA : Grow ρ H ρ' H' := g0.trans g
      have rm : KVs X.K ρ' (p :: η) H' (mergeKW [] kvs) (mergeK [] kv) := r.merge ⟨rfl, VRs.nil⟩
      have nD : p ∉ η := s.freshH hp
      have sr' : SR X.K T ρ' (p :: η) s1 (upd H' p (.dK (mergeK [] kv))) := sr.hid' List.mem_cons_self
      have rm' : KVs X.K ρ' (p :: η) (upd H' p (.dK (mergeK [] kv))) (mergeKW [] kvs) (mergeK [] kv) := rm.hid List.mem_cons_self
      refine q (ρ' ++ [p]) _ _ ((gA.hid hp).shift hp) (sr'.shift nD ⟨_, upd_same, rm'.1, rm'.2.shift⟩) ?_
      simp only [VR]
      exact ⟨p, by rw [← sr'.len, List.getElem?_append_right (Nat.le_refl _)]; simp, rfl⟩
    · exact q.elim
  | ex x s' => rw [e] at q; exact q.elim
  | stuck => rw [e] at q; exact q.elim
end
end Mi
/-! The mirror: try .. except X as e, isinstance(e, C) in its suite. -/
namespace Mi
open PySem PySem.Spec PyProof.Rows L2
def clrS (i : Nat) : SRs → SRs
  | .nx e s => .nx (e.set i none) s
  | .bk e s => .bk (e.set i none) s
  | .ct e s => .ct (e.set i none) s
  | .rt w s => .rt w s
  | .ex _ _ _ => .stuck
  | .stuck => .stuck
open Classical in
noncomputable def agree (f : Addr → SRs) : SRs := if ∀ a, f a = f 0 then f 0 else .stuck
theorem agree_eq {f : Addr → SRs} {r : SRs} (h : ∀ a, f a = r) : agree f = r := by
  unfold agree
  rw [if_pos (fun a => by rw [h a, h 0])]
  exact h 0
theorem SAfter.agree {K : PySem.W.Frag} {T : Nat → Addr} {η ρ : List Addr} {H : Hp} {f : Addr → SRs} {D : Ends} {Wx : WX'} (h : SAfter K T η ρ H (agree f) D Wx) (a : Addr) : SAfter K T η ρ H (f a) D Wx := by
  unfold Mi.agree at h
  split at h
  · rename_i q
    rw [q a]
    exact h
  · exact h.elim
theorem ER.clr {K : PySem.W.Frag} {ρ η : List Addr} {H : Hp} {env : Ev} {σ : L2.St} (i : Nat) (h : ER K ρ η H env σ) : ER K ρ η H (env.set i none) (σ.set i none) := ⟨by simp [h.1], fun j u e => by
  rw [List.getElem?_set] at e ⊢
  split at e
  · split at e
    · cases e
    · cases e
  · rename_i q
    rw [if_neg q]
    exact h.2 j u e⟩
theorem SAfter.clr {K : PySem.W.Frag} {T : Nat → Addr} {η ρ : List Addr} {H : Hp} {r : SRs} {i : Nat} {D : Ends} {Wx Wy : WX'} (h : SAfter K T η ρ H (clrS i r) D Wx) :
    SAfter K T η ρ H r { nx := fun σ' H' => D.nx (σ'.set i none) H', rt := D.rt, bk := fun σ' H' => D.bk (σ'.set i none) H', ct := fun σ' H' => D.ct (σ'.set i none) H' } Wy := by
  cases r with
  | nx e s => exact fun ρ' H' σ' g sr er => h ρ' H' _ g sr (er.clr i)
  | bk e s => exact fun ρ' H' σ' g sr er => h ρ' H' _ g sr (er.clr i)
  | ct e s => exact fun ρ' H' σ' g sr er => h ρ' H' _ g sr (er.clr i)
  | rt w s => exact h
  | ex x e s => exact h.elim
  | stuck => exact h.elim
/-- isinstance(e, C), e the error that the suite holds; tb tells which of the classes are C's -/
def mExIs (n : Nat) (a : Addr) (tb : List (Nat × Bool)) (i : Nat) : M W := fun env st => match env[i]? with
  | some (some (.at_ b)) => if b = a then (match tb.lookup n with
    | some r => .ok (.bl r) st
    | none => .stuck) else .stuck
  | _ => .stuck
theorem se_exis {X : Cx} {T : Nat → Addr} {Wx : WX'} {n : Nat} {a C : Addr} {oe : Obj} {pn : List (Addr × Obj)} {tb : List (Nat × Bool)} {i : Nat} {nm x : Str} {p p1 p2 pos : Pos}
    (hE : ∀ q ∈ tb, ExcC X.K (T q.1)) (hz : Zc (.ref (T n)) none oe) (hf : ∃ vs, oe.data = .fields vs) (hk : ∀ q ∈ tb, PySem.W.kitOne X.K (.ref (T q.1)) (.ref C) = some q.2)
    (hg : Gl (X.suite a ((a, oe) :: pn)) "isinstance") (hm : (X.suite a ((a, oe) :: pn)).mg "isinstance" = none) (hN : (X.suite a ((a, oe) :: pn)).N[i]? = some nm) (hv : Vis (X.suite a ((a, oe) :: pn)).env.scope nm) (hgC : Gl (X.suite a ((a, oe) :: pn)) x) (hmC : (X.suite a ((a, oe) :: pn)).mg x = some (.ref C))
    (hd : (nm == ("__debug__" : Str)) = false := by decide) (hcd : (nm == ("__classdict__" : Str)) = false := by decide) (hdx : (x == ("__debug__" : Str)) = false := by decide)
    (s1 : starEach [.Name nm p1, .Name x p2] (X.suite a ((a, oe) :: pn)).env = (false, eval (.Name nm p1) (X.suite a ((a, oe) :: pn)).env) :: starEach [.Name x p2] (X.suite a ((a, oe) :: pn)).env := by rfl)
    (s2 : starEach [.Name x p2] (X.suite a ((a, oe) :: pn)).env = (false, eval (.Name x p2) (X.suite a ((a, oe) :: pn)).env) :: starEach [] (X.suite a ((a, oe) :: pn)).env := by rfl)
    (hpl : (backTo pos (starEach [.Name x p2] (X.suite a ((a, oe) :: pn)).env)).any (·.1) = false := by rfl) :
    SE (X.suite a ((a, oe) :: pn)) T Wx (.Call (.Name "isinstance" p) [.Name nm p1, .Name x p2] [] pos) (mExIs n a tb i) := by
  intro ρ η st env σ H Q s er q
  unfold mExIs at q
  split at q
  · rename_i b e0
    split at q
    · rename_i eb
      subst eb
      cases el : tb.lookup n with
      | none => rw [el] at q; exact q.elim
      | some r =>
        rw [el] at q
        have hmem := lookup_mem el
        obtain ⟨v, e1, r1⟩ := er.2 i _ e0
        simp only [VR] at r1
        subst r1
        refine ⟨_, pe_callB (call_isE (hE _ hmem) hz hf) hg hm (by decide +kernel) (pa_cons (pe_var hN hv hd hcd) (pa_cons (pe_glob (v := .ref C) hgC hmC rfl hdx) pa_nil s2) s1) (by decide) (by decide) s1 hpl, ?_⟩
        exact ⟨_, e1, .ref C, .ref C, r, rfl, fun u h => h, hk _ hmem, After.ok q s (by simp only [VR])⟩
    · exact q.elim
  · exact q.elim
end Mi
/-! a dict beside a whole number -/
namespace PySem.SeqAt
open AutoSeq1 (wpAny_loadPart')
end PySem.SeqAt
namespace Mi
open PySem PySem.Spec PyProof.Rows L2
end Mi
/-! dict.pop(k), list.remove of whole numbers, list(range(n)) -/
namespace Mi
open PySem PySem.Spec PyProof.Rows L2
def mDpop (mo mk : M W) : M W := fun env st => (mo env st).bind fun o s1 => if (dkOf s1 o).isSome = true then (mk env s1).bind fun k s2 => match nodD s2 o, keyOf k with
    | some (i, kvs), some k => (match lkW kvs k with
      | some w => .ok w (s2.set i (.dk (dropKW kvs k)))
      | none => .stuck)
    | _, _ => .stuck else .stuck
def mLrg (fz : Bool) (m : M W) : M W := fun env st => (m env st).bind fun w s1 => match w with
  | .int n => if n.natAbs ≤ 16777216 then newL fz ((List.range n.toNat).map fun i => .int (i : Nat)) s1 else .stuck
  | _ => .stuck
section
variable {K : PySem.W.Frag} {T : Nat → Addr} {ρ η : List Addr} {H : Hp} {st : Sto}
theorem rgv_vrs : ∀ (l : List Nat), VRs K ρ η H (l.map fun i => W.int (i : Nat)) (l.map fun i => V.int (0 + (i : Nat)))
  | [] => VRs.nil
  | a :: r => VRs.cons (by simp only [VR]; rw [Int.zero_add]) (rgv_vrs r)
end
section
variable {X : Cx} {T : Nat → Addr} {Wx : WX'} {pos apos : Pos}
theorem m1_of {o e : Expr} {m : Str} {cpos : Pos} (h1 : attributeBase o m X.env (eval o X.env) = eval o X.env := by rfl) (h2 : ((backTo cpos (starEach [e] X.env)).all (fun x => !x.1) && (backToKw cpos (keywordEach [] X.env)).all (fun x => x.1.isSome)
    && decide (([e] : List Expr).length + ([] : List Keyword).length + (if ([] : List Keyword).isEmpty then 0 else 1) < 30)) = true := by rfl) (h3 : (apos.endLine == cpos.line) = true := by rfl) (h4 : backTo cpos (starEach [e] X.env) = [(false, eval e X.env)] := by rfl) : M1 X o m apos e cpos := ⟨h1, h2, h3, h4⟩
theorem se_dpop {o e : Expr} {mo mk : M W} (ho : SE X T Wx o mo) (he : SE X T Wx e mk) (m : M1 X o "pop" apos e pos) : SE X T Wx (.Call (.Attribute o "pop" apos) [e] [] pos) (mDpop mo mk) := by
  intro ρ η st env σ H Q s er q
  refine ⟨_, pe_dpop1 pe_S pe_S m, ?_⟩
  refine ho ρ η st env σ H _ s er (q.bind fun w s1 ρ1 H1 v g1 sr1 r1 h1 => ?_)
  split at h1
  · rename_i z
    obtain ⟨kvs, z⟩ := Option.isSome_iff_exists.mp z
    obtain ⟨a, kv, e1, e2, _⟩ := dk_ok sr1 r1 z
    refine ⟨a, e1, .inl ⟨kv, e2⟩, ?_⟩
    refine he ρ1 η s1 env σ H1 _ sr1 (er.mono g1) (h1.bind fun k s2 ρ2 H2 kv' g2 sr2 r2 h2 => ?_)
    split at h2
    · rename_i i ks k q1 q2
      obtain ⟨a', kw, f1, f2, f3, f4⟩ := nodd_ok sr2 (r1.mono g2) q1
      rw [e1] at f1
      cases f1
      rcases kv_find (k := k) f4.1 f4.2 with ⟨y1, y2⟩ | ⟨y, u', y1, y2, y3⟩
      · rw [y1] at h2
        exact h2.elim
      · rw [y1] at h2
        exact ⟨kw, k, u', f3, key_ok r2 q2, y2, dk_put sr2 f2 f3 f4.drop y3 h2⟩
    · exact h2.elim
  · exact h1.elim
theorem se_lrg {fz : Bool} {a : Expr} {m : M W} {p p2 pos2 : Pos} (hc : X.calm = true) (hg : Gl X (Str.ofString "range")) (hm : X.mg (Str.ofString "range") = none) (hg2 : Gl X "list") (hm2 : X.mg "list" = none) (ha : SE X T Wx a m)
    (n1 : starEach [a] X.env = (false, eval a X.env) :: starEach [] X.env := by rfl) (n2 : starEach [.Call (.Name "range" p) [a] [] pos] X.env = (false, eval (.Call (.Name "range" p) [a] [] pos) X.env) :: starEach [] X.env := by rfl) :
    SE X T Wx (.Call (.Name "list" p2) [.Call (.Name "range" p) [a] [] pos] [] pos2) (mLrg fz m) := by
  intro ρ η st env σ H Q s er q
  refine ⟨_, pe_listRg hc hg2 hm2 (prg_1 hg hm pe_S n1) n2, ?_⟩
  refine ha ρ η st env σ H _ s er (q.bind fun w s1 ρ1 H1 v g1 sr1 r1 h1 => ?_)
  split at h1
  · rename_i n
    simp only [VR] at r1
    subst r1
    split at h1
    · rename_i z
      refine ⟨n, rfl, ⟨by omega, by omega, by omega, by omega, by omega⟩, fun q hq => ?_⟩
      refine newL_ok h1 sr1 ?_ hq
      unfold rgV
      rw [Int.sub_zero]
      exact rgv_vrs _
    · exact h1.elim
  · exact h1.elim
end
end Mi
set_option maxHeartbeats 6400000
/-! set(a list of whole numbers) -/
namespace Mi
open PySem PySem.Spec PyProof.Rows L2
/-- a set as it is made -/
abbrev eset (w : World) : Obj := { cls := .type "set", dict := none, data := .set #[] 0 (.fresh 0 0 (!w.params.followText "set-order")) }
/-- the set is made, the other objects stay -/
structure MadeSet (w : World) (h : Heap) (ns : List Int) (h' : Heap) : Prop where
  set : ∃ c, c ≤ ns.length ∧ SetR w h' h.objs.size (fun j => decide (j ∈ ns)) c
  old : ∀ b o, h.get? b = some o → h'.get? b = some o
section
variable {P : Program} {w : World} {A : Around} {E : Value → Shared → Prop} {s : Shared} {l : Addr} {items : Array Value} {ns : List Int}
theorem call_setL {Q : Value → Shared → Prop} (hh : A.handled = none) (hl : s.heap.IsList l items) (hit : IntsAre items.toList ns) (hb : ns.length + 1 < scanBound)
    (h : ∀ h' t', MadeSet w s.heap ns h' → Q (.ref s.heap.objs.size) { s with heap := h', toks := t' }) : wpAny (model P w) A (call (.type "set") [.ref l]) Q E s := by
  have len : items.size = ns.length := (Array.length_toList (xs := items)).symm.trans (IntsAre.length hit)
  have f := F.called_set
  obtain ⟨_, _, f0⟩ := f.mro
  have f1 := f.made
  have f2 := f.sub
  have f3 := f.notType
  have f4 := f.canCreate
  have f5 := F.typeCall_set_1 (.ref l)
  refine wpAny_call ?_
  refine codeAny_of_tree ?_
  change wpAny _ _ (callAny (Value.type "set") ⟨[.ref l], []⟩) _ _ _
  refine wpAny_pure ⟨?_, ?_⟩
  · exact Code.quiet_builtin _ (by decide +kernel)
  refine codeAny_builtin F.entry_type_call ?_
  rw [Around.under_plain (weight_type_call_type "set" [.ref l] []) (by rfl)]
  repeat any_goals first | assumption | wp_step
  refine codeAny_mono (code_set_led1 (.ref l) (E := E) (Q₁ := fun v t => v = .ref s.heap.objs.size ∧ t = { s with heap := s.heap.push (eset w) }) ⟨rfl, rfl⟩) fun r t hr => ?_
  rcases r with e | fl
  · exact hr
  cases fl
  case ret v =>
    obtain ⟨rfl, rfl⟩ := hr
    have g1 : (s.heap.push (eset w)).get? s.heap.objs.size = some (eset w) := Heap.get?_push_size _ rfl
    have g2 : Shared.TypeIs { s with heap := s.heap.push (eset w) } (.ref s.heap.objs.size) "set" := ⟨_, g1, rfl⟩
    have f6 := f.init.lookup
    have f7 := f.init.bind (.ref s.heap.objs.size)
    repeat any_goals first | assumption | wp_step
    refine codeAny_mono (codeAny_call_builtin (R := wants (fun r t => r = .none ∧ ∃ h' k, t = { s with heap := h', toks := k } ∧ MadeSet w s.heap ns h') E) f.init.plain F.entry_set_init (check_set_init_1 g2 ?_)) fun r t hr => ?_
    · have hw : A.in1.in1.in1.handled = none := by simp [hh]
      obtain ⟨⟨oc, od, dt, osl⟩, o1, o2, n, o3⟩ := hl
      simp only at o2 o3
      subst o2 o3
      have lt : l < s.heap.objs.size := Heap.lt_size o1
      have sz : (s.heap.push (eset w)).objs.size = s.heap.objs.size + 1 := Heap.size_push ..
      have ne : l ≠ (s.heap.push (eset w)).objs.size := Nat.ne_of_lt (sz ▸ Nat.lt_succ_of_lt lt)
      have out : s.heap.objs.size ∉ [(s.heap.push (eset w)).objs.size, l] := by
        intro z
        rcases List.mem_cons.mp z with z | z
        · exact Nat.ne_of_lt (Nat.lt_succ_self _) (z.trans sz)
        · exact Nat.ne_of_gt lt (List.mem_singleton.mp z)
      have k1 := Heap.get?_push_of_some (eset w) o1
      have k2 := PySem.F.sub_list_set
      have k3 := PySem.F.sub_list_frozenset
      have k4 : (Value.type "list" == Value.type "dict") = false := by decide
      have k5 : (s.heap.push (eset w)).IsList l items := ⟨_, k1, rfl, n, rfl⟩
      have val : ∀ (i : Nat) (v : Value), items[i]? = some v → ∃ k t, ns[i]? = some k ∧ v = .int k t := fun i v hv => by
        obtain ⟨hi, _⟩ := Array.getElem?_eq_some_iff.mp hv
        rw [len] at hi
        obtain ⟨t, e⟩ := PyProof.Rows.IntsAre.int_at hit i v ((Array.getElem?_toList ..).trans hv)
        refine ⟨ns[i], t, List.getElem?_eq_getElem hi, e.trans ?_⟩
        simp [hi]
      unfold Builtin.«set.__init__» noKeywords
      unfold Builtin.Frozenset.updateFrom
      generalize hp : pyIter = pI
      wp_walk
      subst hp
      refine wpAny_pyIter_list k5 (wpAny_bind ?_)
      refine wpAny_runValue ?_
      refine set_update_ints ((Walks.list hw _ l ne items).toS) s.heap.objs.size out ns len hb val (items.size - 0) 0 _ (by omega) (Nat.zero_le _) ⟨⟨_, Heap.get?_push_size _ rfl, rfl, rfl⟩, k5.push _⟩
        ⟨0, Nat.le_refl 0, setR_new_at (Heap.get?_push_of_some _ g1)⟩ fun t c hm hc hS => ?_
      obtain ⟨h', g', d', t', os'⟩ := t
      obtain rfl : g' = s.gens := hm.gens
      obtain rfl : d' = s.drawn := hm.drawn
      obtain rfl : os' = s.os := hm.os
      change wpAny _ _ _ _ _ _
      refine wpAny_pure ?_
      change wpAny _ _ (ret Value.none) _ _ _
      refine wpAny_pure ⟨rfl, h', t', rfl, ⟨c, by omega, hS⟩, fun b o e => ?_⟩
      have lb : b < s.heap.objs.size := Heap.lt_size e
      refine hm.heap b o (fun z => ?_) (Heap.get?_push_of_some _ (Heap.get?_push_of_some _ e))
      rcases List.mem_cons.mp z with z | z
      · exact Nat.ne_of_lt lb z
      · exact Nat.ne_of_lt (Nat.lt_succ_of_lt lb) ((List.mem_singleton.mp z).trans sz)
    · rcases r with e | fl
      · exact hr
      cases fl
      case ret v =>
        obtain ⟨rfl, h', k, rfl, hm⟩ := hr
        repeat any_goals first | assumption | wp_step
        exact h _ _ hm
      all_goals exact hr.elim
  all_goals exact hr.elim
end
/-- the members, ascending, each once -/
def uniqZ : List Int → List Int
  | [] => []
  | a :: r => if a ∈ r then uniqZ r else a :: uniqZ r
def setZ (ns : List Int) : List Int := sortZ (uniqZ ns)
theorem uniqZ_mem {k : Int} : ∀ {ns : List Int}, k ∈ uniqZ ns ↔ k ∈ ns
  | [] => Iff.rfl
  | a :: r => by
    have ih := uniqZ_mem (k := k) (ns := r)
    unfold uniqZ
    split
    · rename_i h
      rw [ih, List.mem_cons]
      exact ⟨.inr, fun z => z.elim (fun e => e ▸ h) id⟩
    · rw [List.mem_cons, List.mem_cons, ih]
theorem uniqZ_nodup : ∀ {ns : List Int}, (uniqZ ns).Nodup
  | [] => .nil
  | a :: r => by
    have ih := uniqZ_nodup (ns := r)
    unfold uniqZ
    split
    · exact ih
    · rename_i h
      exact List.nodup_cons.mpr ⟨fun z => h (uniqZ_mem.mp z), ih⟩
theorem setZ_of {ns ks : List Int} (p : ks.Pairwise (· < ·)) (m : ∀ k, k ∈ ks ↔ k ∈ ns) : ks = setZ ns := by
  have nd : ks.Nodup := p.imp fun h => Int.ne_of_lt h
  refine sortZ_of ((List.perm_ext_iff_of_nodup nd uniqZ_nodup).mpr fun k => (m k).trans uniqZ_mem.symm) (p.imp fun h => Int.le_of_lt h)
theorem setZ_lt {ns : List Int} : (setZ ns).Pairwise (· < ·) := by
  have h1 : (setZ ns).Pairwise (· ≤ ·) := by
    have := List.pairwise_mergeSort (le := fun a b : Int => decide (a ≤ b)) (by intro a b c; simp; omega) (by intro a b; simp; omega) (uniqZ ns)
    exact this.imp fun h => by simpa using h
  have h2 : (setZ ns).Nodup := (List.mergeSort_perm (uniqZ ns) _).nodup_iff.mpr uniqZ_nodup
  exact (h1.and h2).imp fun ⟨a, b⟩ => by omega
theorem setZ_mem {ns : List Int} {k : Int} : k ∈ setZ ns ↔ k ∈ ns := (List.mergeSort_perm (uniqZ ns) _).mem_iff.trans uniqZ_mem
def rSetL (K : PySem.W.Frag) (w : World) : List V → Hp → VK → Prop := fun xs H Q => ∃ (a : Addr) (ns : List Int), xs = [V.ref a] ∧ SqL K H a (ns.map V.int) ∧ ns.length < 64 ∧ ∀ p c, c ≤ ns.length → H p = none → Q (.ref p) (upd H p (SetO w p (fun j => decide (j ∈ ns)) c))
def fSortSet (fz : Bool) : FC := fun ws st => match ws with
  | [w] => match seqL st w with
    | some xs => match intsOf xs with
      | some ns => if ns.length < 64 then newL fz ((setZ ns).map W.int) st else .stuck
      | none => .stuck
    | none => .stuck
  | _ => .stuck
section
variable {X : Cx} {T : Nat → Addr} {Wx : WX'}
theorem cr_setL (hc : X.calm = true) : CallR X (.type "set") (rSetL X.K X.w) := by
  intro pins s σ H xs us Q I r h
  obtain ⟨a, ns, rfl, hs, h64, q⟩ := h
  rw [Vals.ref1 r]
  obtain ⟨its, rv, pl, hz⟩ := I.list hs
  refine call_setL (I.ok.hd hc) pl.isList (by simpa using ints_of_vals rv) (by unfold scanBound; omega) fun h' t' made => ?_
  obtain ⟨⟨c, hc', R⟩, old⟩ := made
  have n : H s.heap.objs.size = none := I.hok.fresh (Nat.le_refl _)
  exact ⟨.ref _, _, I.laid (t' := t') old (Nat.le_refl _) (setO_new R), rfl, q _ c hc' n⟩
theorem se_sortset {fz : Bool} {a : Expr} {m : M W} {p1 p2 pos1 pos2 : Pos} (hc : X.calm = true) (hg : Gl X "sorted") (hm : X.mg "sorted" = none) (hv : bootBuiltins "sorted" = some (.builtin "sorted")) (hg2 : Gl X "set") (hm2 : X.mg "set" = none) (hv2 : bootBuiltins "set" = some (.type "set")) (ha : SE X T Wx a m)
    (n1 : starEach [a] X.env = (false, eval a X.env) :: starEach [] X.env := by rfl) (n2 : starEach [.Call (.Name "set" p2) [a] [] pos2] X.env = (false, eval (.Call (.Name "set" p2) [a] [] pos2) X.env) :: starEach [] X.env := by rfl) :
    SE X T Wx (.Call (.Name "sorted" p1) [.Call (.Name "set" p2) [a] [] pos2] [] pos1) (mFn (fSortSet fz) (mCons m mNil)) := by
  intro ρ η st env σ H Q s er q
  refine ⟨_, pe_callB (cr_sortedSet hc) hg hm hv (pa_cons (pe_callTy (cr_setL hc) hg2 hm2 hv2 (pa_cons pe_S pa_nil n1) (he := n1)) pa_nil n2) (he := n2), ?_⟩
  unfold mFn mCons at q
  rw [Rs.bind_assoc] at q
  refine ha ρ η st env σ H _ s er (q.bind fun w s1 ρ1 H1 v g1 sr1 r1 h1 => ?_)
  unfold mNil at h1
  simp only [Rs.bind, fSortSet] at h1
  cases q1 : seqL s1 w with
  | none => rw [q1] at h1; exact h1.elim
  | some xs =>
    rw [q1] at h1
    obtain ⟨b, us, e1, e2, e3⟩ := seq_ok sr1 r1 q1
    cases q2 : intsOf xs with
    | none => simp only [q2] at h1; exact h1.elim
    | some ns =>
      simp only [q2] at h1
      have eu := ints_ok e3 q2
      by_cases lz : ns.length < 64
      · rw [if_pos lz] at h1
        subst e1
        refine ⟨b, ns, rfl, by rw [← eu]; exact e2, lz, fun p c hcl hp => ?_⟩
        refine ⟨p, _, c, rfl, upd_same, by omega, fun ks p' k1 k2 k3 hp' => ?_⟩
        have e4 : ks = setZ ns := setZ_of k1 fun k => (k2 k).trans (by simp)
        rw [e4]
        have g : Grow ρ1 H1 ρ1 (upd H1 p (SetO X.w p (fun j => decide (j ∈ ns)) c)) := Grow.new hp
        exact newL_ok (h1.grow g) (sr1.new' hp) vints hp'
      · rw [if_neg lz] at h1
        exact h1.elim
end
end Mi
/-! The mirror: a lambda without parameters, handed to a def that calls it. -/
namespace Mi
open PySem PySem.Spec PyProof.Rows L2 LamX
def tbOf (T : Nat → Addr) : Nd → Option (Addr × Str)
  | .tb j q => some (T (1000 + j), q)
  | _ => none
theorem nt_of {o : HO} (h : plO o = true) : nt o = true := by cases o <;> first | rfl | cases h
section
variable {K : PySem.W.Frag} {T : Nat → Addr} {ρ η ρ' η' : List Addr} {H H1 H' : Hp} {st : Sto}
theorem SR.tabs (s : SR K T ρ η st H) : Tabs (st.filterMap (tbOf T)) H := by
  intro p hp
  obtain ⟨nd, h1, h2⟩ := List.mem_filterMap.mp hp
  obtain ⟨i, hi⟩ := List.getElem?_of_mem h1
  have hi' : i < ρ.length := by rw [s.len]; exact (List.getElem?_eq_some_iff.mp hi).1
  have k := s.at_ i nd ρ[i] hi (List.getElem?_eq_getElem hi')
  cases nd with
  | tb j q =>
    simp only [tbOf, Option.some.injEq] at h2
    subst h2
    obtain ⟨e, ps, k1, k2, k3⟩ := k
    refine ⟨ps, by rw [← e]; exact k1, k2, fun pos cv z => ?_⟩
    obtain ⟨c, c1, c2, c3, c4⟩ := k3 pos cv z
    exact ⟨c, c1, c4⟩
  | _ => simp [tbOf] at h2
/-- a place holds no code object -/
theorem SR.noext {a : Addr} {f : Heap → Prop} (s : SR K T ρ η st H) (ha : a ∈ ρ) : H a ≠ some (.ext f) := by
  intro z
  obtain ⟨i, hi⟩ := List.getElem?_of_mem ha
  have hi' : i < st.length := by rw [← s.len]; exact (List.getElem?_eq_some_iff.mp hi).1
  have k := s.at_ i _ a (List.getElem?_eq_getElem hi') hi
  cases e : st[i] with
  | lst xs => rw [e] at k; obtain ⟨vs, y, _⟩ := k; rw [y] at z; cases z
  | dk xs => rw [e] at k; obtain ⟨vs, y, _⟩ := k; rw [y] at z; cases z
  | lk xs => rw [e] at k; obtain ⟨od, vs, y, _⟩ := k; rw [y] at z; cases z
  | ins c xs => rw [e] at k; obtain ⟨dx, vs, y, _⟩ := k; rw [y] at z; cases z
  | tb p q => rw [e] at k; obtain ⟨_, ps, y, _⟩ := k; rw [y] at z; cases z
theorem SR.noextH {a : Addr} {f : Heap → Prop} (s : SR K T ρ η st H) (ha : a ∈ η) : H a ≠ some (.ext f) := by
  intro z
  obtain ⟨o, e, p⟩ := s.has a ha
  rw [z] at e
  cases e
  cases p
/-- more stands, and tables have more -/
theorem SR.ext (s : SR K T ρ η st H) (x : ExtN H H1) (t : Tabs (st.filterMap (tbOf T)) H1) : Grow ρ H ρ H1 ∧ SR K T ρ η st H1 := by
  have keep : ∀ a o, H a = some o → nt o = true → H1 a = some o := fun a o e n => x a o e (fun ps z => by rw [z] at n; cases n)
  have g : Grow ρ H ρ H1 := ⟨⟨[], by simp, by simp⟩, fun a o _ e n => keep a o e n, fun a o e n => ⟨o, keep a o e n, n⟩, fun a o u e => keep a _ e rfl⟩
  have noR : ∀ a ∈ ρ, ∀ f, H1 a ≠ some (.ext f) := by
    intro a ha f z
    obtain ⟨i, hi⟩ := List.getElem?_of_mem ha
    have hi' : i < st.length := by rw [← s.len]; exact (List.getElem?_eq_some_iff.mp hi).1
    have k := s.at_ i _ a (List.getElem?_eq_getElem hi') hi
    cases e : st[i] with
    | lst xs => rw [e] at k; obtain ⟨vs, y, _⟩ := k; rw [keep a _ y rfl] at z; cases z
    | dk xs => rw [e] at k; obtain ⟨vs, y, _⟩ := k; rw [keep a _ y rfl] at z; cases z
    | lk xs => rw [e] at k; obtain ⟨od, vs, y, _⟩ := k; rw [keep a _ y rfl] at z; cases z
    | ins c xs => rw [e] at k; obtain ⟨dx, vs, y, _⟩ := k; rw [keep a _ y rfl] at z; cases z
    | tb j q =>
      rw [e] at k
      obtain ⟨e0, _⟩ := k
      obtain ⟨ps, m1, _⟩ := t (T (1000 + j), q) (List.mem_filterMap.mpr ⟨_, List.getElem_mem hi', by rw [e]; rfl⟩)
      rw [e0, m1] at z
      cases z
  refine ⟨g, s.nd, s.len, s.hid, fun a ha => ?_, fun i nd a e q => ?_⟩
  · obtain ⟨o, e, p⟩ := s.has a ha
    exact ⟨o, keep a o e (nt_of p), p⟩
  · have k := s.at_ i nd a e q
    cases nd with
    | lst xs => obtain ⟨vs, y, _⟩ := id k; exact NR.mono g ((keep a _ y rfl).trans y.symm) k
    | dk xs => obtain ⟨vs, y, _⟩ := id k; exact NR.mono g ((keep a _ y rfl).trans y.symm) k
    | lk xs => obtain ⟨od, vs, y, _⟩ := id k; exact NR.mono g ((keep a _ y rfl).trans y.symm) k
    | ins c xs => obtain ⟨dx, vs, y, _⟩ := id k; exact NR.mono g ((keep a _ y rfl).trans y.symm) k
    | tb j w =>
      obtain ⟨e0, _⟩ := k
      obtain ⟨ps, m1, m2, m3⟩ := t (T (1000 + j), w) (List.mem_filterMap.mpr ⟨_, List.mem_of_getElem? e, rfl⟩)
      refine ⟨e0, ps, by rw [e0]; exact m1, m2, fun pos cv z => ?_⟩
      obtain ⟨c, c1, c2⟩ := m3 pos cv z
      refine ⟨c, c1, fun hc => noR c hc _ c2, fun hc => ?_, c2⟩
      obtain ⟨o, e1, p⟩ := s.has c hc
      have z := keep c o e1 (nt_of p)
      have c3 : H1 c = some (CodeO c w) := c2
      rw [c3] at z
      cases z
      cases p
mutual
theorem VR.gh {ρ0 η0 : List Addr} {H0 : Hp} (g : GH ρ0 η0 H0 ρ η H) : ∀ {w : W} {v : V}, VR K ρ0 η0 H0 w v → VR K ρ η H w v
  | .non, _, h => h
  | .bl _, _, h => h
  | .int _, _, h => h
  | .str _, _, h => h
  | .ty _, _, h => h
  | .at_ _, _, h => h
  | .fn _ _ _ _, _, h => ⟨h.1, h.2.trans g⟩
  | .ref i, v, h => by
    simp only [VR] at h ⊢
    obtain ⟨a, e, r⟩ := h
    obtain ⟨⟨t, e2⟩, _⟩ := g
    exact ⟨a, by rw [e2, List.getElem?_append_left (List.getElem?_eq_some_iff.mp e).1]; exact e, r⟩
  | .tup xs, v, h => by
    simp only [VR] at h ⊢
    obtain ⟨a, vs, e, t, r⟩ := h
    refine ⟨a, vs, e, ?_, VRs.gh g r⟩
    rcases t with ⟨h1, h2, h3⟩ | t
    · rcases h3 with h3 | ⟨o, h3⟩
      · obtain ⟨x1, x2, x3⟩ := g.2 a _ h1 h2 h3 rfl
        exact .inl ⟨x1, x2, .inl x3⟩
      · obtain ⟨x1, x2, x3⟩ := g.2 a _ h1 h2 h3 rfl
        exact .inl ⟨x1, x2, .inr ⟨o, x3⟩⟩
    · exact .inr t
  | .lst xs, v, h => by
    simp only [VR] at h ⊢
    obtain ⟨a, vs, e, ⟨t1, t2, t3⟩, r⟩ := h
    exact ⟨a, vs, e, g.2 a _ t1 t2 t3 rfl, VRs.gh g r⟩
  | .scr xs, v, h => by
    simp only [VR] at h ⊢
    obtain ⟨a, vs, e, t, r⟩ := h
    refine ⟨a, vs, e, ?_, VRs.gh g r⟩
    rcases t with ⟨h1, h2, h3⟩ | t
    · rcases h3 with h3 | ⟨o, h3⟩
      · obtain ⟨x1, x2, x3⟩ := g.2 a _ h1 h2 h3 rfl
        exact .inl ⟨x1, x2, .inl x3⟩
      · obtain ⟨x1, x2, x3⟩ := g.2 a _ h1 h2 h3 rfl
        exact .inl ⟨x1, x2, .inr ⟨o, x3⟩⟩
    · exact .inr t
theorem VRs.gh {ρ0 η0 : List Addr} {H0 : Hp} (g : GH ρ0 η0 H0 ρ η H) : ∀ {ws : List W} {vs : List V}, VRs K ρ0 η0 H0 ws vs → VRs K ρ η H ws vs
  | [], _, h => by simpa only [VRs] using h
  | x :: xs, vs, h => by
    simp only [VRs] at h ⊢
    obtain ⟨v, r, e, h1, h2⟩ := h
    exact ⟨v, r, e, VR.gh g h1, VRs.gh g h2⟩
end
theorem ER.gh {ρ0 η0 : List Addr} {H0 : Hp} {env : Ev} {σ : L2.St} (g : GH ρ0 η0 H0 ρ η H) (h : ER K ρ0 η0 H0 env σ) : ER K ρ η H env σ := ⟨h.1, fun i w e => by
  obtain ⟨v, q, r⟩ := h.2 i w e
  exact ⟨v, q, r.gh g⟩⟩
end
/-! ### what a call of the parameter does -/
open Classical in
/-- F is what the parameter at i holds, cl what its call does -/
noncomputable def mCallP (F : W) (i : Nat) (cl : Sto → Rs W) : M W := fun env st => if env[i]? = some (some F) then cl st else .stuck
def calmR (r : Rs W) : Rs W := match r with
  | .ex _ _ => .stuck
  | r => r
theorem After.calm {K : PySem.W.Frag} {T : Nat → Addr} {η ρ : List Addr} {H : Hp} {R : List Addr → Hp → W → V → Prop} {r : Rs W} {Q : VK} {E E' : Value → Option Addr → Hp → Prop} (h : After K T η R ρ H (calmR r) Q E) : After K T η R ρ H r Q E' := by
  cases r with
  | ok w s => exact h
  | ex x s => exact h.elim
  | stuck => exact h.elim
/-- what comes is told of any state of names -/
def sForget (n : Nat) (m : MS) : MS := fun env st => match m env st with
  | .ex x _ st1 => .ex x (List.replicate n none) st1
  | r => r
theorem takes_any {X : Cx} {Wx : WX'} (tk : Takes X Wx) : Takes X (WD fun c d H => ∀ σ : L2.St, σ.length = X.N.length → Wx c d σ H) := by
  rintro u s' ⟨a, B, sI, pins, σ, H, cls, d, h1, I, h2, h3, h4, h5, h6, h7, h8⟩
  exact tk u s' ⟨a, B, sI, pins, σ, H, cls, d, h1, I, h2, h3, h4, h5, h6, h7, h8 σ I.len⟩
theorem er_none {K : PySem.W.Frag} {ρ η : List Addr} {H : Hp} {σ : L2.St} : ER K ρ η H (List.replicate σ.length none) σ := ⟨by simp, fun i w e => by
  rw [List.getElem?_replicate] at e
  split at e <;> cases e⟩
theorem ss_forget {X : Cx} {T : Nat → Addr} {Wx : WX'} {c : Stmt} {m : MS} {n : Nat} (tk : Takes X Wx) (hn : X.N.length = n) (h : ∀ E : XK, Takes X (WD E) → SSt X T (WD E) c m) : SSt X T Wx c (sForget n m) := by
  subst hn
  intro ρ η st env σ H D s er q
  refine h _ (takes_any tk) ρ η st env σ H D s er ?_
  unfold sForget at q
  cases e : m env st with
  | ex x env1 st1 =>
    rw [e] at q
    intro ρ1 H1 σ1 c d g sr1 er1 xr σ' hl
    refine q ρ1 H1 σ' c d g sr1 ?_ xr
    rw [← hl]
    exact er_none
  | nx env1 st1 => rw [e] at q; exact q
  | rt w st1 => rw [e] at q; exact q
  | bk env1 st1 => rw [e] at q; exact q
  | ct env1 st1 => rw [e] at q; exact q
  | stuck => rw [e] at q; exact q
/-- what a def is told of the parameter a, its i-th name -/
def CallP (X : Cx) (T : Nat → Addr) (F : W) (i : Nat) (a : Str) (cl : Sto → Rs W) : Prop :=
  ∀ (E : XK) (pn : List (Addr × Obj)) (xe : Value → Shared → Prop) (p1 p2 : Pos), Takes (X.tr pn xe) (WD E) → SE (X.tr pn xe) T (WD E) (.Call (.Name a p1) [] [] p2) (mCallP F i cl)
/-- x(lambda: ..): n names behind the parameter, mL what x does with what it is handed -/
noncomputable def mLam (j : Nat) (q : Str) (mL : W → (Sto → Rs W) → MS) (n : Nat) (mb : M W) : M W := fun env st => match st[j]? with
  | some (.tb j' q') => if j' = j ∧ q' = q then calmR (outOf (mL .non (fun s => mb env s) (some .non :: List.replicate n none) st)) else .stuck
  | _ => .stuck
section
variable {X : Cx} {T : Nat → Addr} {Wx : WX'}
theorem se_lamcall {x a q : Str} {st0 : Stmt} {g c P : Addr} {fd : FuncData} {k j n : Nat} {Ng : List Str} {params : Arguments} {body : Expr} {scope : Scope} {p lpos pos : Pos} {mL : W → (Sto → Rs W) → MS} {mb : M W}
    (F : Fun X.K x x st0 g fd) (hg : Gl X x) (hm : X.mg x = some (.ref g)) (hb : Binds X.K fd [a] []) (Sg : FnScope Ng [a] (defScope st0)) (hNg : Ng[0]? = some a) (hn : Ng.length = n + 1) (hva : Vis (defScope st0) a)
    (hTB : TabB X.base X.mg c P) (hcode : X.env.code = .ref c) (hP : T (1000 + j) = P) (hq : X.env.qual ++ "<lambda>" = q)
    (hr : Room (k + 2) X.A) (L : LamS X.env.scope scope) (hdef : defaultsOf params X.env = ([], []))
    (hbind : ∀ (q : Str) (cl : List (Str × Addr)) (pm cv ctv : Value), bindArgs (PySem.W.kla_fn "<lambda>" q params body scope cl pm cv ctv) ⟨[], []⟩ = pure [])
    (hbody : ∀ (A : Around) (outer : List Env) (s : Shared) (G : Hp) (E : XK) (f c' : Addr), Room k (A.deeper (lamEnv X scope s.heap.objs.size f c')) → SE (lamCx X A outer s G E scope f c') T (WD E) body mb)
    (hcal : ∀ (cdv : Value) (s : Shared) (G : Hp), Room (k + 1) (X.A.deeper (envOfC x (defScope st0) s.heap.objs.size g cdv)) → ∀ (F : W) (cl : Sto → Rs W), CallP (cxOf C8.CX0 X.prog X.w X.K X.mg X.base Ng x (defScope st0) g cdv X.A X.stack s G C8.E0) T F 0 a cl →
      SSs (cxOf C8.CX0 X.prog X.w X.K X.mg X.base Ng x (defScope st0) g cdv X.A X.stack s G C8.E0).nox T W0 (defBody st0) (mL F cl))
    (hpar : ∀ (F : W) (cl : Sto → Rs W) (st : Sto), outOf (mL F cl (some F :: List.replicate n none) st) = outOf (mL .non cl (some .non :: List.replicate n none) st))
    (hdb : (x == ("__debug__" : Str)) = false := by decide) (hda : (a == ("__debug__" : Str)) = false := by decide) (hdc : (a == ("__classdict__" : Str)) = false := by decide) :
    SE X T Wx (.Call (.Name x p) [.Lambda params body scope lpos] [] pos) (mLam j q mL n mb) := by
  intro ρ η st env σ H Q s er aft
  subst hq
  obtain ⟨oc, od, kV, doc, pm, an, cdv, ct, osl, rfl, lk, hcg⟩ := F.ex
  unfold mLam at aft
  split at aft
  · rename_i j' q' e1
    split at aft
    · rename_i e2
      obtain ⟨rfl, rfl⟩ := e2
      have hj : j' < ρ.length := by rw [s.len]; exact (List.getElem?_eq_some_iff.mp e1).1
      have hρ : ρ[j']? = some ρ[j'] := List.getElem?_eq_getElem hj
      have eP : ρ[j'] = P := (s.at_ j' _ _ e1 hρ).1.trans hP
      refine ⟨tLam (st.filterMap (tbOf T)) (fun tl H1 Q1 => SR X.K T ρ η st H1 ∧ ER X.K ρ η H1 env σ ∧
          (∀ (E : XK) (ρZ ηZ : List Addr) (HZ : Hp) (QZ : VK) (stZ : Sto), SR X.K T ρZ ηZ stZ HZ → ER X.K ρZ ηZ HZ env σ → After X.K T ηZ (fun ρ H => VR X.K ρ ηZ H) ρZ HZ (mb env stZ) QZ (fun c d H' => E c d H') → tl E HZ QZ) ∧
          After X.K T η (fun ρ H => VR X.K ρ η H) ρ H1 (calmR (outOf (mL .non (fun s => mb env s) (some .non :: List.replicate n none) st))) Q1 (fun _ _ _ => False))
        (fun E σ' H' Q' => ∀ (A : Around) (outer : List Env) (s0 : Shared) (G : Hp) (f c' : Addr), Room k (A.deeper (lamEnv X scope s0.heap.objs.size f c')) → tS (lamCx X A outer s0 G E scope f c') body σ' H' Q'),
        pe_lamcall hg hm F.kp lk hcg hb Sg hNg hva ?G hTB hcode ?mem ?hu hr L hdef hbind ?body hdb hda hdc, ?_⟩
      case mem => exact List.mem_filterMap.mpr ⟨_, List.mem_of_getElem? e1, by simp only [tbOf, hP]⟩
      case hu =>
        intro p hp z
        obtain ⟨nd, h1, h2⟩ := List.mem_filterMap.mp hp
        obtain ⟨i, hi⟩ := List.getElem?_of_mem h1
        have hi' : i < ρ.length := by rw [s.len]; exact (List.getElem?_eq_some_iff.mp hi).1
        have k1 := s.at_ i nd ρ[i] hi (List.getElem?_eq_getElem hi')
        cases nd with
        | tb j2 q2 =>
          simp only [tbOf, Option.some.injEq] at h2
          subst h2
          have e3 : ρ[i] = P := k1.1.trans z
          have e4 : i = j' := (List.getElem_inj s.nd).mp (e3.trans eP.symm)
          subst e4
          rw [e1] at hi
          cases hi
          rfl
        | _ => simp [tbOf] at h2
      case body =>
        intro A outer s0 G E f c' hrr
        exact ⟨fun pins s' σ' H' Q' I h => by
          obtain ⟨u, h1, h2⟩ := h A outer s0 G f c' hrr
          exact h1.run pins s' σ' H' Q' I h2⟩
      case G =>
        intro f c' s0 H1 Q1 tl sup hc' hTT
        obtain ⟨sr, er1, rel, aft1⟩ := hTT
        have hc1 : c' ∉ ρ := fun z => sr.noext z hc'
        have hc2 : c' ∉ η := fun z => sr.noextH z hc'
        have CP : CallP (cxOf C8.CX0 X.prog X.w X.K X.mg X.base Ng x (defScope st0) g cdv X.A X.stack s0 H1 C8.E0) T (.fn f ρ η H1) 0 a (fun s => mb env s) := by
          intro E pn xe p1 p2 tk ρ2 η2 st2 env2 σ2 H2 Q2 sr2 er2 q2
          unfold mCallP at q2
          split at q2
          · rename_i hF
            obtain ⟨v, v1, v2⟩ := er2.2 0 _ hF
            simp only [VR] at v2
            obtain ⟨v3, gh⟩ := v2
            subst v3
            exact ⟨_, sup (WD E) pn xe E p1 p2 tk (fun _ _ _ _ h => h), v1, (gh.2 c' _ hc1 hc2 hc' rfl).2.2, rel E ρ2 η2 H2 Q2 st2 sr2 (er1.gh gh) q2⟩
          · exact q2.elim
        have es : ER X.K ρ η H1 (some (.fn f ρ η H1) :: List.replicate n none) (L2.start Ng [V.ref f]) := by
          have := er_start (K := X.K) (ρ := ρ) (η := η) (H := H1) (N := Ng) (VRs.cons (x := .fn f ρ η H1) (v := V.ref f) (show _ ∧ _ from ⟨rfl, GH.refl⟩) VRs.nil)
          rw [hn] at this
          exact this
        have go := hcal cdv s0 H1 (hr.deeper _) (.fn f ρ η H1) (fun s => mb env s) CP ρ η st _ _ H1 { nx := fun _ H' => Q1 V.non H', rt := Q1 } sr es ?_
        · exact go
        · rw [← hpar (.fn f ρ η H1)] at aft1
          cases e : mL (.fn f ρ η H1) (fun s => mb env s) (some (.fn f ρ η H1) :: List.replicate n none) st with
          | nx env1 s1 => rw [e] at aft1; exact fun ρ1 H1 σ1 g1 sr1 er1 => aft1 ρ1 H1 _ g1 sr1 (by simp only [VR])
          | rt w1 s1 => rw [e] at aft1; exact aft1
          | bk env1 s1 => rw [e] at aft1; exact aft1.elim
          | ct env1 s1 => rw [e] at aft1; exact aft1.elim
          | ex y env1 s1 => rw [e] at aft1; exact aft1.elim
          | stuck => rw [e] at aft1; exact aft1.elim
      · refine ⟨s.tabs, fun H1 hx ht => ?_⟩
        obtain ⟨g1, sr1⟩ := s.ext hx ht
        refine ⟨sr1, er.mono g1, fun E ρZ ηZ HZ QZ stZ srZ erZ aZ A outer s0 G f c' hrr => hbody A outer s0 G E f c' hrr ρZ ηZ stZ env σ HZ QZ srZ erZ aZ, ?_⟩
        have a1 := After.grow g1 aft
        cases e : outOf (mL .non (fun s => mb env s) (some .non :: List.replicate n none) st) with
        | ok w s => rw [e] at a1; exact a1
        | ex x s => rw [e] at a1; exact a1.elim
        | stuck => rw [e] at a1; exact a1.elim
    · exact aft.elim
  · exact aft.elim
end
/-! ### a def in which a lambda stands -/
/-- a def whose code object stands at c -/
def FunL (K : PySem.W.Frag) (x qual : Str) (st : Stmt) (f : Addr) (fd : FuncData) (c : Addr) : Prop :=
  ∃ oc od kV doc pm an ct osl, fd = PySem.W.fnOf x qual (defArgs st) (defBody st) (defScope st) .none kV doc pm an (.ref c) ct ∧ K.lookup f = some ⟨oc, od, .func fd, osl⟩ ∧ PySem.W.codeIn K (.ref c) qual = true
section
variable {P : Program} {w : World} {K : PySem.W.Frag} {mg : Str → Option Value} {base : Heap} {T : Nat → Addr} {k : Nat}
theorem fn_okL {x qual : Str} {st : Stmt} {f c : Addr} {fd : FuncData} {N ps : List Str} {m : MS} (F : FunL K x qual st f fd c) (S : FnScope N ps (defScope st))
    (hb : ∀ (A : Around) (outer : List Env) (s : Shared) (H : Hp) (E : XK), Room k (A.deeper (envOfC qual (defScope st) s.heap.objs.size f (.ref c))) →
      SSs (L2.cxOf (L2.CX P w) P w K mg base N qual (defScope st) f (.ref c) A outer s H E) T (WD E) (defBody st) m) : FnM P w K mg base T (k + 1) f fd ps (runOf N.length m) := by
  obtain ⟨oc, od, kV, doc, pm, an, ct, osl, rfl, lk, hcd⟩ := F
  refine ⟨fun vs H Q E h => spM_len vs H Q E h, fun A outer s H args us vs Q E hr env bd rv h => ?_⟩
  refine LamX.run_ofS lk hcd S hr env bd rv (spM_len vs H Q E h) fun hr' => ?_
  obtain ⟨ρ, η, sto, ws, sr, r, l, a⟩ := h
  have go := hb A outer s H E hr' ρ η sto _ _ H { nx := fun _ H' => Q .non H', rt := Q } sr (er_start (N := N) r) ?_
  · exact go
  · unfold runOf at a
    cases e : m (ws.map some ++ List.replicate (N.length - ws.length) none) sto with
    | nx env s1 => rw [e] at a; exact fun ρ1 H1 σ1 g1 sr1 er1 => a ρ1 H1 _ g1 sr1 (by simp only [VR])
    | rt w1 s1 => rw [e] at a; exact a
    | bk env s1 => rw [e] at a; exact a.elim
    | ct env s1 => rw [e] at a; exact a.elim
    | ex x env s1 => rw [e] at a; exact fun ρ1 H1 σ1 c d g1 sr1 er1 xr => a ρ1 H1 c d g1 sr1 xr
    | stuck => rw [e] at a; exact a
end
theorem tab_nil : TriplesOk (#[] : Array Value).toList := by trivial
end Mi
/-! list.count and list.index of flags -/
namespace Mi
open PySem PySem.Spec PyProof.Rows L2
section
variable {K : PySem.W.Frag} {T : Nat → Addr}
end
end Mi
/-! == of instances of own classes that tell no ==, and of dicts of unlike lengths -/
namespace Mi
open PySem PySem.Spec PyProof.Rows L2
/-! the mirror -/
section
variable {X : Cx} {T : Nat → Addr}
end
end Mi
/-! The mirror: try with several clauses `except X as e`. -/
namespace Mi
open PySem PySem.Spec PyProof.Rows L2
/-- behind a clause that named i -/
abbrev clrE (D : Ends) (i : Nat) : Ends := { nx := fun σ' H' => D.nx (σ'.set i none) H', rt := D.rt, bk := fun σ' H' => D.bk (σ'.set i none) H', ct := fun σ' H' => D.ct (σ'.set i none) H' }
def wManyA (K : PySem.W.Frag) (Wout : WX) (D : Ends) : List (Value × Nat × (Addr → Value → Option Addr → TS)) → WX
  | [] => Wout
  | (c, i, ts) :: r => fun cls d σ H => ∃ b, PySem.W.exmOne K cls c = some b ∧ (b = true → ∀ a, H a = none → ts a cls d (clrE D i) (σ.set i (some (.ref a))) H) ∧ (b = false → wManyA K Wout D r cls d σ H)
inductive HdsA (X : Cx) : List ExceptHandler → List (Value × Nat × (Addr → Value → Option Addr → TS)) → Prop where
  | nil : HdsA X [] []
  | cons {x nm : Str} {c : Value} {i : Nat} {ts : Addr → Value → Option Addr → TS} {b₀ : Stmt} {suite : List Stmt} {np pos' : Pos} {hds : List ExceptHandler} {l : List (Value × Nat × (Addr → Value → Option Addr → TS))}
    (hi : X.N[i]? = some nm) (hln : X.env.kindOf nm = some .local) (hc : Names X x c)
    (hsu : ∀ (a : Addr) (oe : Obj) (cls : Value) (d : Option Addr) (pn : List (Addr × Obj)), Zc cls d oe → (∃ vs, oe.data = .fields vs) → PSs (X.suite a ((a, oe) :: pn)) (b₀ :: suite) (ts a cls d))
    (r : HdsA X hds l) : HdsA X (.ExceptHandler (some (.Name x np)) (some nm) (b₀ :: suite) pos' :: hds) ((c, i, ts) :: l)
theorem ps_try_manyA {X : Cx} {body : List Stmt} {h₀ : ExceptHandler} {hds : List ExceptHandler} {l : List (Value × Nat × (Addr → Value → Option Addr → TS))} {pos : Pos} {tb : WX → TS} {Wout : WX}
    (hs : X.stack = X.env :: X.outer) (hf : X.env.frame = some X.env.locals) (hN : X.N.Nodup) (tk : Takes X Wout)
    (hb : ∀ (W : WX) (pn : List (Addr × Obj)) (xe : Value → Shared → Prop), Takes (X.tr pn xe) W → PassesOwn (model X.prog X.w) X.A X.env xe → PSs (X.tr pn xe) body (tb W))
    (hh : HdsA X (h₀ :: hds) l) : PS X (.Try body (h₀ :: hds) [] [] pos) (fun D σ H => tb (wManyA X.K Wout D l) D σ H) := by
  refine ⟨fun pins s σ H D I h => ?_⟩
  have ok := I.ok
  have hfr : X.A.frames = some (X.env :: X.outer) := by rw [ok.frames, hs]
  refine wpAny_Try_except (wpAny_mono ((hb (wManyA X.K Wout D l) (X.pn ++ pins) (fun e s₁ => wpAny (model X.prog X.w) X.A (noteFrame e X.env) (fun _ s₂ => wpAny (model X.prog X.w) X.A (setFlight e none) (fun _ s₃ => wpAny (model X.prog X.w) X.A (handleBy e X.env (h₀ :: hds)) (SP X pins D) X.xe s₃) X.xe s₂) X.xe s₁) ?takes PassesOwn.looking).run [] s σ H D (Inv.toTry I _) h) ?flows (fun e s1 he => he))
  case flows =>
    intro f s1 hsp
    cases f with
    | next =>
      obtain ⟨σ', H', J', q⟩ := hsp
      exact wpAny_execs_nil ⟨σ', H', Inv.ofTry J' ok, q⟩
    | brk =>
      obtain ⟨σ', H', J', q⟩ := hsp
      exact ⟨σ', H', Inv.ofTry J' ok, q⟩
    | cont =>
      obtain ⟨σ', H', J', q⟩ := hsp
      exact ⟨σ', H', Inv.ofTry J' ok, q⟩
    | ret u =>
      obtain ⟨v, σ', H', J', r, q⟩ := hsp
      exact ⟨v, σ', H', Inv.ofTry J' ok, r, q⟩
  case takes =>
    rintro u s' ⟨a, B, sI, pins', σ', H', cls, d, rfl, J', nb, up, sky, na, os, ag, w⟩
    have J := Inv.ofTry J' ok
    have sky' : Sky B (X.env :: X.outer) a (Zc cls d) X.env.locals s'.heap := by rw [← hs]; exact sky
    refine Sky.land Zc.steady hfr hf sky' fun h3 fl3 up3 => ?_
    have J3 : L2.Inv X pins σ' H' { s' with heap := h3 } := Inv.landed J nb fl3.1 (Heap.UpToSlots.trans up up3) os ag
    obtain ⟨oe3, vs3, he3, hz3, hd3⟩ := HandSPX.FlyingZ.there fl3
    have nfr : a ∉ List.filterMap Env.frame (X.env :: X.outer) := fun hm => by
      obtain ⟨_, o', e', hnf⟩ := Heap.FunFrames.mem fl3.2.2.1 hm
      rw [he3] at e'
      cases e'
      exact hnf vs3 hd3
    have nL : a ≠ X.env.locals := fun z => nfr (List.mem_filterMap.mpr ⟨X.env, List.mem_cons_self, by rw [hf, z]⟩)
    have nF : a ∉ X.fs := fun hm => by
      obtain ⟨e, he, q⟩ := List.mem_filterMap.mp hm
      exact nfr (List.mem_filterMap.mpr ⟨e, List.mem_cons_of_mem X.env he, q⟩)
    have S3 := Inv.suite J3 he3 hd3 na nL nF
    have go : ∀ {hds' : List ExceptHandler} {l' : List (Value × Nat × (Addr → Value → Option Addr → TS))}, HdsA X hds' l' → wManyA X.K Wout D l' cls d σ' H' → wpAny (model X.prog X.w) X.A (handleBy (.ref a) X.env hds') (SP X pins D) X.xe { s' with heap := h3 } := by
      intro hds' l' hk
      induction hk with
      | nil =>
        intro w
        refine wpAny_handleBy_nil ?_
        obtain ⟨k1, k2, k3, oe, vs, T, oT, ts', he, hz, hd, h1, hr⟩ := id fl3
        refine wpAny_bind (wpAny_field he hd h1 ?_)
        rw [if_neg (by simp)]
        refine wpAny_bind ?_
        rw [hf]
        exact HandSPX.setFlight_upZ fl3 fun h4 hh4 up4 => wpAny_throw (tk (.ref a) _ ⟨a, B, sI, pins, σ', H', cls, d, rfl, J, nb, Heap.UpToSlots.trans (Heap.UpToSlots.trans up up3) up4, Or.inr (Or.inr (by rw [hs]; exact hh4)), na, os, ag, w⟩)
      | cons hi hln hc hsu r ih =>
        rename_i x nm c i ts b₀ suite np pos' hds2 l2
        intro w
        obtain ⟨b, hb1, hyes, hno⟩ := w
        have hloc : L2.Loc X.env.scope nm := Or.inl hln
        refine wpAny_handleBy_cons (codeAny_handlers_test ?_) (fun q => nomatch q)
        have LT : PySem.W.Looks (model X.prog X.w) h3 (typeOf (.ref a)) cls := fun A Q E s k q => wpAny_typeOf_ref (k a oe3 he3) (by rw [hz3.1]; exact q)
        have LM := PySem.W.exm_one J3.kIn LT hb1
        have test : ∀ {Q : Value → Shared → Prop} {E : Value → Shared → Prop}, Q c { s' with heap := h3 } → wpAny (model X.prog X.w) (X.A.mark (some (.ref a))) (eval (.Name x np) X.env) Q E { s' with heap := h3 } := fun q => by
          obtain ⟨hg, hdbg, hm | ⟨hm, hv, hnn⟩⟩ := hc
          · exact ld_glob S3 hg hm q hdbg
          · exact ld_blt S3 hg hm hv q hnn hdbg
        refine test (PySem.W.Looks.here LM ?_)
        cases b with
        | false => exact ih (hno rfl)
        | true =>
          refine codeAny_handlers_suite_as (HandSPX.lands_againZ fl3 fun h4 fl4 up4 => ?_)
          have J4 : L2.Inv X pins σ' H' { s' with heap := h4 } := Inv.landed J nb fl4.1 (Heap.UpToSlots.trans (Heap.UpToSlots.trans up up3) up4) os ag
          obtain ⟨oe4, vs4, he4, hz4, hd4⟩ := HandSPX.FlyingZ.there fl4
          have S4 := Inv.suite J4 he4 hd4 na nL nF
          refine store_ok (X := X.suite a ((a, oe4) :: (X.pn ++ pins))) (v := V.ref a) S4 hN hi hloc rfl (fun s5 S5 => ?_) (Or.inr hln)
          refine wpAny_mono ((hsu a oe4 cls d (X.pn ++ pins) hz4 ⟨vs4, hd4⟩).run [] s5 (σ'.set i (some (V.ref a))) H' (clrE D i) S5 (hyes rfl a na)) (fun f s6 hsp => ?_) (fun x x_1 z => False.elim z)
          cases f with
          | next =>
            obtain ⟨σ6, H6, S6, q6⟩ := hsp
            exact gone_ok (Inv.unsuite S6 ok) hN hi hln fun s7 J7 => ⟨σ6.set i none, H6, J7, q6⟩
          | brk =>
            obtain ⟨σ6, H6, S6, q6⟩ := hsp
            exact gone_ok (Inv.unsuite S6 ok) hN hi hln fun s7 J7 => ⟨σ6.set i none, H6, J7, q6⟩
          | cont =>
            obtain ⟨σ6, H6, S6, q6⟩ := hsp
            exact gone_ok (Inv.unsuite S6 ok) hN hi hln fun s7 J7 => ⟨σ6.set i none, H6, J7, q6⟩
          | ret u =>
            obtain ⟨v6, σ6, H6, S6, r6, q6⟩ := hsp
            exact gone_ok (Inv.unsuite S6 ok) hN hi hln fun s7 J7 => ⟨v6, σ6.set i none, H6, J7, r6, q6⟩
    exact go hh w
end Mi
namespace Mi
open PySem PySem.Spec PyProof.Rows L2
/-- a clause: which classes it takes, the name's place, its suite -/
abbrev Cls1 := List (Nat × Bool) × Nat × (Nat → Addr → MS)
noncomputable def catchA : List Cls1 → Nat → Ev → Sto → SRs
  | [], n, env, st => .ex (.plain n) env st
  | (tb, i, k) :: r, n, env, st => match tb.lookup n with
    | some true => agree fun a => clrS i (k n a (env.set i (some (.at_ a))) st)
    | some false => catchA r n env st
    | none => .stuck
noncomputable def sTryM (cs : List Cls1) (m : MS) : MS := fun env st => match m env st with
  | .ex (.plain n) env1 st1 => catchA cs n env1 st1
  | r => r
inductive HdsM (X : Cx) (T : Nat → Addr) : List ExceptHandler → List Cls1 → Prop where
  | nil : HdsM X T [] []
  | cons {x nm : Str} {cv : Value} {i : Nat} {b₀ : Stmt} {suite : List Stmt} {np pos' : Pos} {tb : List (Nat × Bool)} {k : Nat → Addr → MS} {hds : List ExceptHandler} {cs : List Cls1}
    (hi : X.N[i]? = some nm) (hln : X.env.kindOf nm = some .local) (hc : Names X x cv) (ht : ∀ p ∈ tb, PySem.W.exmOne X.K (.ref (T p.1)) cv = some p.2)
    (hsu : ∀ (n : Nat) (a : Addr) (oe : Obj) (pn : List (Addr × Obj)), (∃ b, (n, b) ∈ tb) → Zc (.ref (T n)) none oe → (∃ vs, oe.data = .fields vs) → SSs (X.suite a ((a, oe) :: pn)) T W0 (b₀ :: suite) (k n a))
    (r : HdsM X T hds cs) : HdsM X T (.ExceptHandler (some (.Name x np)) (some nm) (b₀ :: suite) pos' :: hds) ((tb, i, k) :: cs)
section
variable {X : Cx} {T : Nat → Addr} {Wx : WX'}
theorem hdsM_ok {hds : List ExceptHandler} {cs : List Cls1} (h : HdsM X T hds cs) : ∃ l, HdsA X hds l ∧ ∀ (D : Ends) (ρ η : List Addr) (H : Hp) (σ : L2.St) (env : Ev) (st : Sto) (n : Nat), SR X.K T ρ η st H → ER X.K ρ η H env σ →
    SAfter X.K T η ρ H (catchA cs n env st) D Wx → wManyA X.K Wx D l (.ref (T n)) none σ H := by
  induction h with
  | nil => exact ⟨[], .nil, fun D ρ η H σ env st n sr er q => q ρ H σ _ none Grow.refl sr er ⟨rfl, rfl⟩⟩
  | cons hi hln hc ht hsu r ih =>
    rename_i x nm cv i b₀ suite np pos' tb k hds cs
    obtain ⟨l, h1, h2⟩ := ih
    refine ⟨(cv, i, fun a cls d D σ H => ∃ n, (∃ b, (n, b) ∈ tb) ∧ cls = .ref (T n) ∧ d = none ∧ ∀ oe pn, Zc cls d oe → (∃ vs, oe.data = .fields vs) → tSSs (X.suite a ((a, oe) :: pn)) (b₀ :: suite) D σ H) :: l, HdsA.cons hi hln hc (fun a oe cls d pn hz hf => ⟨fun pins s σ H D I h => ?_⟩) h1, fun D ρ η H σ env st n sr er q => ?_⟩
    · obtain ⟨n, hn, e1, e2, h⟩ := h
      exact pss_S.run pins s σ H D I (h oe pn hz hf)
    · unfold catchA at q
      cases el : tb.lookup n with
      | none => rw [el] at q; exact q.elim
      | some b =>
        rw [el] at q
        refine ⟨b, ht _ (lookup_mem el), fun hb1 a na => ?_, fun hb1 => ?_⟩
        · subst hb1
          refine ⟨n, ⟨_, lookup_mem el⟩, rfl, rfl, fun oe pn hz hf => ?_⟩
          refine hsu n a oe pn ⟨_, lookup_mem el⟩ hz hf ρ η st (env.set i (some (.at_ a))) (σ.set i (some (.ref a))) H _ sr (er.set (by simp only [VR])) ?_
          exact SAfter.clr (SAfter.agree q a)
        · subst hb1
          exact h2 D ρ η H σ env st n sr er q
theorem ss_tryM {body : List Stmt} {h₀ : ExceptHandler} {hds : List ExceptHandler} {pos : Pos} {m : MS} {cs : List Cls1}
    (hs : X.stack = X.env :: X.outer) (hf : X.env.frame = some X.env.locals) (hN : X.N.Nodup) (tk : Takes X Wx) (hh : HdsM X T (h₀ :: hds) cs)
    (hb : ∀ (Wy : WX') (pn : List (Addr × Obj)) (xe : Value → Shared → Prop), Takes (X.tr pn xe) Wy → PassesOwn (model X.prog X.w) X.A X.env xe → SSs (X.tr pn xe) T Wy body m) :
    SSt X T Wx (.Try body (h₀ :: hds) [] [] pos) (sTryM cs m) := by
  intro ρ η st env σ H D s er q
  obtain ⟨l, h1, h2⟩ := hdsM_ok (Wx := Wx) hh
  refine ⟨_, ps_try_manyA hs hf hN tk (tb := fun Wy D σ H => ∀ pn xe, Takes (X.tr pn xe) Wy → PassesOwn (model X.prog X.w) X.A X.env xe → tSSs (X.tr pn xe) body D σ H)
    (fun Wy pn xe tk1 pw1 => ⟨fun pins s σ H D I h => pss_S.run pins s σ H D I (h pn xe tk1 pw1)⟩) h1, ?_⟩
  intro pn xe tk1 pw1
  refine hb _ pn xe tk1 pw1 ρ η st env σ H D s er ?_
  unfold sTryM at q
  cases e : m env st with
  | nx env1 st1 => rw [e] at q; exact q
  | rt w st1 => rw [e] at q; exact q
  | bk env1 st1 => rw [e] at q; exact q
  | ct env1 st1 => rw [e] at q; exact q
  | stuck => rw [e] at q; exact q
  | ex y env1 st1 =>
    rw [e] at q
    cases y with
    | plain n =>
      intro ρ1 H1 σ1 c d g sr1 er1 xr
      obtain ⟨rfl, rfl⟩ := xr
      exact h2 D ρ1 η H1 σ1 env1 st1 n sr1 er1 (SAfter.grow g q)
/-- isinstance(e, C), C a built-in class -/
theorem se_exisB {n : Nat} {a : Addr} {oe : Obj} {pn : List (Addr × Obj)} {tb : List (Nat × Bool)} {i : Nat} {nm : Str} {t : String} {p p1 p2 pos : Pos}
    (hE : ∀ q ∈ tb, ExcC X.K (T q.1)) (hz : Zc (.ref (T n)) none oe) (hf : ∃ vs, oe.data = .fields vs) (hk : ∀ q ∈ tb, PySem.W.kitOne X.K (.ref (T q.1)) (.type t) = some q.2)
    (hg : Gl (X.suite a ((a, oe) :: pn)) "isinstance") (hm : (X.suite a ((a, oe) :: pn)).mg "isinstance" = none) (hN : (X.suite a ((a, oe) :: pn)).N[i]? = some nm) (hv : Vis (X.suite a ((a, oe) :: pn)).env.scope nm) (hgC : Gl (X.suite a ((a, oe) :: pn)) t) (hmC : (X.suite a ((a, oe) :: pn)).mg t = none) (hbt : bootBuiltins t = some (.type t))
    (hd : (nm == ("__debug__" : Str)) = false := by decide) (hcd : (nm == ("__classdict__" : Str)) = false := by decide) (hn1 : (Str.ofString t) ≠ "__name__" := by decide) (hn2 : (Str.ofString t == ("__debug__" : Str)) = false := by decide)
    (s1 : starEach [.Name nm p1, .Name t p2] (X.suite a ((a, oe) :: pn)).env = (false, eval (.Name nm p1) (X.suite a ((a, oe) :: pn)).env) :: starEach [.Name t p2] (X.suite a ((a, oe) :: pn)).env := by rfl)
    (s2 : starEach [.Name t p2] (X.suite a ((a, oe) :: pn)).env = (false, eval (.Name t p2) (X.suite a ((a, oe) :: pn)).env) :: starEach [] (X.suite a ((a, oe) :: pn)).env := by rfl)
    (hpl : (backTo pos (starEach [.Name t p2] (X.suite a ((a, oe) :: pn)).env)).any (·.1) = false := by rfl) :
    SE (X.suite a ((a, oe) :: pn)) T Wx (.Call (.Name "isinstance" p) [.Name nm p1, .Name t p2] [] pos) (mExIs n a tb i) := by
  intro ρ η st env σ H Q s er q
  unfold mExIs at q
  split at q
  · rename_i b e0
    split at q
    · rename_i eb
      subst eb
      cases el : tb.lookup n with
      | none => rw [el] at q; exact q.elim
      | some r =>
        rw [el] at q
        have hmem := lookup_mem el
        obtain ⟨v, e1, r1⟩ := er.2 i _ e0
        simp only [VR] at r1
        subst r1
        refine ⟨_, pe_callB (call_isE (hE _ hmem) hz hf) hg hm (by decide +kernel) (pa_cons (pe_var hN hv hd hcd) (pa_cons (pe_bltn (v := .ty t) hgC hmC hbt rfl hn1 hn2) pa_nil s2) s1) (by decide) (by decide) s1 hpl, ?_⟩
        exact ⟨_, e1, .ty t, .type t, r, rfl, fun u h => h, hk _ hmem, After.ok q s (by simp only [VR])⟩
    · exact q.elim
  · exact q.elim
end
end Mi
/-! what a run of the mirror comes to -/
namespace Mi
open PySem L2
def wp {α : Type} (r : Rs α) (P : α → Sto → Prop) (E : Xc → Sto → Prop) : Prop := match r with
  | .ok a s => P a s
  | .ex x s => E x s
  | .stuck => False
abbrev KN := Ev → Sto → Prop
abbrev KR := W → Sto → Prop
abbrev KX := Xc → Ev → Sto → Prop
def ws (r : SRs) (N : KN) (R : KR) (B C : KN) (E : KX) : Prop := match r with
  | .nx e s => N e s
  | .rt w s => R w s
  | .bk e s => B e s
  | .ct e s => C e s
  | .ex x e s => E x e s
  | .stuck => False
def NoE : Xc → Sto → Prop := fun _ _ => False
theorem wp_mono {α : Type} {r : Rs α} {P P' : α → Sto → Prop} {E E' : Xc → Sto → Prop} (h : wp r P E) (f : ∀ a s, P a s → P' a s) (g : ∀ x s, E x s → E' x s) : wp r P' E' := by
  cases r with
  | ok a s => exact f a s h
  | ex x s => exact g x s h
  | stuck => exact h
theorem wp_no {α : Type} {r : Rs α} {P P' : α → Sto → Prop} {E' : Xc → Sto → Prop} (h : wp r P NoE) (f : ∀ a s, P a s → P' a s) : wp r P' E' := wp_mono h f fun _ _ z => z.elim
theorem wp_get {α : Type} {r : Rs α} {P : α → Sto → Prop} (h : wp r P NoE) : ∃ a s, r = .ok a s ∧ P a s := by
  cases r with
  | ok a s => exact ⟨a, s, rfl, h⟩
  | ex x s => exact h.elim
  | stuck => exact h.elim
theorem ws_mono {r : SRs} {N N' : KN} {R R' : KR} {B B' C C' : KN} {E E' : KX} (h : ws r N R B C E) (f : ∀ e s, N e s → N' e s) (g : ∀ w s, R w s → R' w s) (b : ∀ e s, B e s → B' e s) (c : ∀ e s, C e s → C' e s) (x : ∀ x e s, E x e s → E' x e s) : ws r N' R' B' C' E' := by
  cases r with
  | nx e s => exact f e s h
  | rt w s => exact g w s h
  | bk e s => exact b e s h
  | ct e s => exact c e s h
  | ex y e s => exact x y e s h
  | stuck => exact h
theorem ws_nx {r : SRs} {N N' : KN} {R : KR} {B C : KN} {E : KX} (h : ws r N R B C E) (f : ∀ e s, N e s → N' e s) : ws r N' R B C E := ws_mono h f (fun _ _ z => z) (fun _ _ z => z) (fun _ _ z => z) (fun _ _ _ z => z)
section
variable {P : W → Sto → Prop} {PB : Bool → Sto → Prop} {PL : List W → Sto → Prop} {E : Xc → Sto → Prop} {env : Ev} {st : Sto}
theorem wp_ok {α : Type} {a : α} {Q : α → Sto → Prop} : wp (.ok a st) Q E ↔ Q a st := Iff.rfl
theorem wp_bind {α β : Type} {r : Rs α} {k : α → Sto → Rs β} {Q : β → Sto → Prop} : wp (r.bind k) Q E ↔ wp r (fun a s => wp (k a s) Q E) E := by cases r <;> exact Iff.rfl
theorem wp_var0 {w : W} {e : Ev} : wp (mVar 0 (some w :: e) st) P E ↔ P w st := Iff.rfl
theorem wp_varS {n : Nat} {o : Option W} {e : Ev} : wp (mVar (n + 1) (o :: e) st) P E ↔ wp (mVar n e st) P E := by
  unfold mVar
  rw [List.getElem?_cons_succ]
theorem wp_c {w : W} : wp (mC w env st) P E ↔ P w st := Iff.rfl
theorem wp_op {f : F2} {a b : M W} : wp (mOp f a b env st) P E ↔ wp (a env st) (fun x s => wp (b env s) (fun y s2 => wp (f x y s2) P E) E) E := by
  unfold mOp; simp only [wp_bind]
theorem wp_neg {a : M W} : wp (mNeg a env st) P E ↔ wp (a env st) (fun x s => wp (match x with | .int i => .ok (.int (-i)) s | _ => .stuck) P E) E := by
  unfold mNeg; simp only [wp_bind] <;> rfl
theorem wp_toB {b : Bool} : wp (toB (.bl b) st) PB E ↔ PB b st := Iff.rfl
theorem wp_mB {a : M W} : wp (mB a env st) PB E ↔ wp (a env st) (fun w s => wp (toB w s) PB E) E := by
  unfold mB; simp only [wp_bind]
def trB (w : W) (s : Sto) : Rs Bool := match trW s w with
  | some b => .ok b s
  | none => .stuck
theorem wp_tr {a : M W} : wp (mTr a env st) PB E ↔ wp (a env st) (fun w s => wp (trB w s) PB E) E := by
  unfold mTr; simp only [wp_bind] <;> rfl
theorem wp_trB_bl {b : Bool} : wp (trB (.bl b) st) PB E ↔ PB b st := Iff.rfl
theorem wp_trB_non : wp (trB .non st) PB E ↔ PB false st := Iff.rfl
theorem wp_trB_int {i : Int} : wp (trB (.int i) st) PB E ↔ PB (i != 0) st := Iff.rfl
theorem wp_not {m : M Bool} : wp (mNot m env st) PB E ↔ wp (m env st) (fun b s => PB (!b) s) E := by
  unfold mNot; simp only [wp_bind, wp_ok]
theorem wp_ite {α : Type} {c : Prop} [Decidable c] {r k : Rs α} {Q : α → Sto → Prop} : wp (if c then r else k) Q E ↔ if c then wp r Q E else wp k Q E := by
  by_cases h : c <;> simp [h]
theorem wp_and {m k : M Bool} : wp (mAnd m k env st) PB E ↔ wp (m env st) (fun b s => if b = true then wp (k env s) PB E else PB false s) E := by
  unfold mAnd; simp only [wp_bind, wp_ite, wp_ok]
theorem wp_or {m k : M Bool} : wp (mOr m k env st) PB E ↔ wp (m env st) (fun b s => if b = true then PB true s else wp (k env s) PB E) E := by
  unfold mOr; simp only [wp_bind, wp_ite, wp_ok]
theorem wp_if {α : Type} {c : M Bool} {a b : M α} {Q : α → Sto → Prop} : wp (mIf c a b env st) Q E ↔ wp (c env st) (fun z s => if z = true then wp (a env s) Q E else wp (b env s) Q E) E := by
  unfold mIf; simp only [wp_bind, wp_ite]
theorem wp_mBl {m : M Bool} : wp (mBl m env st) P E ↔ wp (m env st) (fun b s => P (.bl b) s) E := by
  unfold mBl; simp only [wp_bind, wp_ok]
theorem wp_nil : wp (mNil env st) PL E ↔ PL [] st := Iff.rfl
theorem wp_cons {a : M W} {r : M (List W)} : wp (mCons a r env st) PL E ↔ wp (a env st) (fun x s => wp (r env s) (fun xs s2 => PL (x :: xs) s2) E) E := by
  unfold mCons; simp only [wp_bind, wp_ok]
theorem wp_tup {m : M (List W)} : wp (mTup m env st) P E ↔ wp (m env st) (fun xs s => P (.tup xs) s) E := by
  unfold mTup; simp only [wp_bind, wp_ok]
theorem wp_lst {fz : Bool} {m : M (List W)} : wp (mLst fz m env st) P E ↔ wp (m env st) (fun xs s => wp (newL fz xs s) P E) E := by
  unfold mLst; simp only [wp_bind]
theorem wp_lstS {fz : Bool} {m : M (List W)} : wp (mLstS fz m env st) P E ↔ wp (m env st) (fun xs s => xs.length ≤ sizeLine ∧ wp (newL fz xs s) P E) E := by
  unfold mLstS; simp only [wp_bind]
  constructor
  · intro h
    refine wp_mono h (fun x s h => ?_) (fun _ _ z => z)
    split at h
    · rename_i q; exact ⟨q, h⟩
    · exact h.elim
  · intro h
    refine wp_mono h (fun x s h => ?_) (fun _ _ z => z)
    rw [if_pos h.1]; exact h.2
theorem wp_newL_t {xs : List W} : wp (newL true xs st) P E ↔ P (.lst xs) st := Iff.rfl
theorem wp_newL_f {xs : List W} : wp (newL false xs st) P E ↔ P (.ref st.length) (st ++ [.lst xs]) := Iff.rfl
theorem wp_dict0 : wp (mDict0 env st) P E ↔ P (.ref st.length) (st ++ [.dk []]) := Iff.rfl
theorem wp_chain {f g : F2} {a b c : M W} : wp (mChain f g a b c env st) P E ↔ wp (a env st) (fun x s => wp (b env s) (fun y s2 => wp (f x y s2) (fun z s3 => wp (toB z s3) (fun t s4 => if t = true then wp (c env s4) (fun u s5 => wp (g y u s5) P E) E else P (.bl false) s4) E) E) E) E := by
  unfold mChain; simp only [wp_bind]
  constructor
  · intro h
    refine wp_mono h (fun x s h => wp_mono h (fun y s2 h => wp_mono h (fun z s3 h => ?_) (fun _ _ z => z)) (fun _ _ z => z)) (fun _ _ z => z)
    split at h
    · simpa only [wp_toB, if_true, wp_bind] using h
    · simpa only [wp_toB, if_false, Bool.false_eq_true, wp_ok] using h
    · exact h.elim
  · intro h
    refine wp_mono h (fun x s h => wp_mono h (fun y s2 h => wp_mono h (fun z s3 h => ?_) (fun _ _ z => z)) (fun _ _ z => z)) (fun _ _ z => z)
    cases z with
    | bl t => cases t <;> simpa only [wp_toB, if_true, if_false, Bool.false_eq_true, wp_bind, wp_ok] using h
    | _ => exact h.elim
theorem wp_call {run : RunM} {m : M (List W)} : wp (mCall run m env st) P E ↔ wp (m env st) (fun ws s => wp (run ws s) P E) E := by
  unfold mCall; simp only [wp_bind]
theorem wp_fn {f : FC} {m : M (List W)} : wp (mFn f m env st) P E ↔ wp (m env st) (fun ws s => wp (f ws s) P E) E := by
  unfold mFn; simp only [wp_bind]
theorem wp_sl {fz : Bool} {ma : M W} {ml mh : M (Option Int)} : wp (mSl fz ma ml mh env st) P E ↔ wp (ma env st) (fun a s => wp (ml env s) (fun lo s2 => wp (mh env s2) (fun hi s3 => wp (wSl fz a lo hi s3) P E) E) E) E := by
  unfold mSl; simp only [wp_bind]
theorem wp_noPart {Q : Option Int → Sto → Prop} : wp (mNoPart env st) Q E ↔ Q none st := Iff.rfl
theorem wp_part {Q : Option Int → Sto → Prop} {m : M W} : wp (mPart m env st) Q E ↔ wp (m env st) (fun a s => wp (match a with | .int i => .ok (some i) s | _ => .stuck) Q E) E := by
  unfold mPart; simp only [wp_bind] <;> rfl
theorem wp_fld {cs : List Nat} {f : Str} {m : M W} : wp (mFld cs f m env st) P E ↔ wp (m env st) (fun a s => wp (match a with | .ref i => (match s[i]? with | some (.ins c fs) => (if cs.contains c then (match fs.lookup f with | some w => .ok w s | none => .stuck) else .stuck) | _ => .stuck) | _ => .stuck) P E) E := by
  unfold mFld; simp only [wp_bind] <;> rfl
theorem wp_lm {f : FM} {o : M W} {m : M (List W)} : wp (mLm f o m env st) P E ↔ wp (o env st) (fun x s => (seqL s x).isSome = true ∧ wp (m env s) (fun xs s2 => wp (f x xs s2) P E) E) E := by
  unfold mLm; simp only [wp_bind]
  constructor
  · intro h
    refine wp_mono h (fun x s h => ?_) (fun _ _ z => z)
    split at h
    · rename_i q; exact ⟨q, by simpa only [wp_bind] using h⟩
    · exact h.elim
  · intro h
    refine wp_mono h (fun x s h => ?_) (fun _ _ z => z)
    rw [if_pos h.1]; simpa only [wp_bind] using h.2
theorem wp_comp {fz : Bool} {mi : MI} {vs : List Nat} {t : CT} {cond : M Bool} {elt : M W} : wp (mComp fz mi vs t cond elt env st) P E ↔ wp (mi env st) (fun s st1 => wp (compS s t cond elt (wipeW env vs) s.fuel 0 [] st1) (fun xs st2 => wp (newL fz xs st2) P E) E) E := by
  unfold mComp; simp only [wp_bind]
theorem wp_yes : wp (mYes env st) PB E ↔ PB true st := Iff.rfl
/-! values -/
theorem wp_add {b : Bool} {i j : Int} : wp (wAdd b (.int i) (.int j) st) P E ↔ P (.int (i + j)) st := Iff.rfl
theorem wp_addL {xs ys : List W} : wp (wAdd true (.lst xs) (.lst ys) st) P E ↔ xs.length + ys.length ≤ sizeLine ∧ P (.lst (xs ++ ys)) st := by
  show wp (if xs.length + ys.length ≤ sizeLine then newL true (xs ++ ys) st else .stuck) P E ↔ _
  rw [wp_ite]
  by_cases h : xs.length + ys.length ≤ sizeLine
  · simp only [h, if_true, true_and]; exact Iff.rfl
  · simp only [h, if_false, false_and]; exact Iff.rfl
theorem wp_sub {i j : Int} : wp (wSub (.int i) (.int j) st) P E ↔ P (.int (i - j)) st := Iff.rfl
theorem wp_mul {b : Bool} {i j : Int} : wp (wMul b (.int i) (.int j) st) P E ↔ (Mi.small64 i || Mi.small64 j) = true ∧ P (.int (i * j)) st := by
  show wp (if Mi.small64 i || Mi.small64 j then .ok (.int (i * j)) st else .stuck) P E ↔ _
  rw [wp_ite]
  by_cases h : (Mi.small64 i || Mi.small64 j) = true
  · rw [if_pos h]; exact ⟨fun z => ⟨h, z⟩, fun z => z.2⟩
  · rw [if_neg h]; exact ⟨fun z => z.elim, fun z => (h z.1).elim⟩
theorem wp_mod {i j : Int} : wp (wMod (.int i) (.int j) st) P E ↔ j ≠ 0 ∧ P (.int (i.fmod j)) st := by
  show wp (if j ≠ 0 then .ok (.int (i.fmod j)) st else .stuck) P E ↔ _
  rw [wp_ite]
  by_cases h : j ≠ 0
  · rw [if_pos h]; exact ⟨fun z => ⟨h, z⟩, fun z => z.2⟩
  · rw [if_neg h]; exact ⟨fun z => z.elim, fun z => (h z.1).elim⟩
theorem wp_div {i j : Int} : wp (wDiv (.int i) (.int j) st) P E ↔ (j ≠ 0 ∧ j.natAbs < 1073741824) ∧ P (.int (i.fdiv j)) st := by
  show wp (if j ≠ 0 ∧ j.natAbs < 1073741824 then .ok (.int (i.fdiv j)) st else .stuck) P E ↔ _
  rw [wp_ite]
  by_cases h : j ≠ 0 ∧ j.natAbs < 1073741824
  · rw [if_pos h]; exact ⟨fun z => ⟨h, z⟩, fun z => z.2⟩
  · rw [if_neg h]; exact ⟨fun z => z.elim, fun z => (h z.1).elim⟩
theorem wp_divW {i j : Int} : wp (wDivW (.int i) (.int j) st) P E ↔ (0 < j ∧ j.natAbs.log2 < 9000) ∧ P (.int (i / j)) st := by
  show wp (if 0 < j ∧ j.natAbs.log2 < 9000 then .ok (.int (i / j)) st else .stuck) P E ↔ _
  rw [wp_ite]
  by_cases h : 0 < j ∧ j.natAbs.log2 < 9000
  · rw [if_pos h]; exact ⟨fun z => ⟨h, z⟩, fun z => z.2⟩
  · rw [if_neg h]; exact ⟨fun z => z.elim, fun z => (h z.1).elim⟩
theorem wp_pow18 : wp (wPow (.int 10) (.int 18) st) P E ↔ P (.int 1000000000000000000) st := by
  have : wPow (.int 10) (.int 18) st = .ok (.int 1000000000000000000) st := rfl
  rw [this]; exact Iff.rfl
theorem wp_pow17 : wp (wPow (.int 10) (.int 17) st) P E ↔ P (.int 100000000000000000) st := by
  have : wPow (.int 10) (.int 17) st = .ok (.int 100000000000000000) st := rfl
  rw [this]; exact Iff.rfl
theorem wp_pow16 : wp (wPow (.int 10) (.int 16) st) P E ↔ P (.int 10000000000000000) st := by
  have : wPow (.int 10) (.int 16) st = .ok (.int 10000000000000000) st := rfl
  rw [this]; exact Iff.rfl
theorem wp_pow30 : wp (wPow (.int 10) (.int 30) st) P E ↔ P (.int 1000000000000000000000000000000) st := by
  have : wPow (.int 10) (.int 30) st = .ok (.int 1000000000000000000000000000000) st := rfl
  rw [this]; exact Iff.rfl
theorem wp_eqI {i j : Int} : wp (wEq (.int i) (.int j) st) P E ↔ P (.bl (decide (i = j))) st := by
  have : wEq (.int i) (.int j) st = .ok (.bl (decide (i = j))) st := by simp [wEq, eqW, scalV, scal]
  rw [this]; exact Iff.rfl
theorem wp_neI {i j : Int} : wp (wNe (.int i) (.int j) st) P E ↔ P (.bl (!decide (i = j))) st := by
  have : wNe (.int i) (.int j) st = .ok (.bl (!decide (i = j))) st := by simp [wNe, eqW, scalV, scal]
  rw [this]; exact Iff.rfl
theorem wp_cmpI {p : Str → Str → Bool} {q : Int → Int → Bool} {i j : Int} : wp (wCmpS p q (.int i) (.int j) st) P E ↔ P (.bl (q i j)) st := Iff.rfl
theorem wp_isN {a : W} : wp (wIs a .non st) P E ↔ P (.bl (isNon a)) st := Iff.rfl
theorem wp_isNotN {a : W} : wp (wIsNot a .non st) P E ↔ P (.bl (!isNon a)) st := Iff.rfl
theorem wp_lenL {xs : List W} : wp (fLen [.lst xs] st) P E ↔ P (.int xs.length) st := Iff.rfl
theorem wp_lenT {xs : List W} : wp (fLen [.tup xs] st) P E ↔ P (.int xs.length) st := Iff.rfl
theorem wp_lenR {i : Nat} {xs : List W} (e : st[i]? = some (.lst xs)) : wp (fLen [.ref i] st) P E ↔ P (.int xs.length) st := by
  have : fLen [.ref i] st = .ok (.int xs.length) st := by simp [fLen, seqL, e]
  rw [this]; exact Iff.rfl
theorem wp_abs {i : Int} : wp (fAbs [.int i] st) P E ↔ P (.int (if i < 0 then -i else i)) st := Iff.rfl
theorem wp_int {i : Int} : wp (fInt [.int i] st) P E ↔ P (.int i) st := Iff.rfl
theorem wp_min2 {i j : Int} : wp (fMin2 [.int i, .int j] st) P E ↔ P (.int (if j < i then j else i)) st := Iff.rfl
theorem wp_max2 {i j : Int} : wp (fMax2 [.int i, .int j] st) P E ↔ P (.int (if j > i then j else i)) st := Iff.rfl
theorem wp_listL {xs : List W} : wp (fList true [.lst xs] st) P E ↔ P (.lst xs) st := Iff.rfl
theorem wp_listT {xs : List W} : wp (fList true [.tup xs] st) P E ↔ P (.lst xs) st := Iff.rfl
theorem wp_tupleL {xs : List W} : wp (fTuple [.lst xs] st) P E ↔ P (.tup xs) st := Iff.rfl
theorem wp_tupleT {xs : List W} : wp (fTuple [.tup xs] st) P E ↔ P (.tup xs) st := Iff.rfl
theorem wp_app {i : Nat} {xs : List W} {w : W} (e : st[i]? = some (.lst xs)) (h : xs.length < sizeLine) : wp (fAppend (.ref i) [w] st) P E ↔ P .non (st.set i (.lst (xs ++ [w]))) := by
  have : fAppend (.ref i) [w] st = .ok .non (st.set i (.lst (xs ++ [w]))) := by simp [fAppend, nodL, e, h]
  rw [this]; exact Iff.rfl
theorem wp_ixL {xs : List W} {n : Nat} {w : W} (e : xs[n]? = some w) : wp (wIx (.lst xs) (.int (n : Int)) st) P E ↔ P w st := by
  have h : n < xs.length := (List.getElem?_eq_some_iff.mp e).1
  have q : xs[n] = w := (List.getElem?_eq_some_iff.mp e).2
  have : wIx (.lst xs) (.int (n : Int)) st = .ok w st := by simp [wIx, dkOf, seqL, wNth, atI, ixN, h, q]
  rw [this]; exact Iff.rfl
theorem wp_ixT {xs : List W} {n : Nat} {w : W} (e : xs[n]? = some w) : wp (wIx (.tup xs) (.int (n : Int)) st) P E ↔ P w st := by
  have h : n < xs.length := (List.getElem?_eq_some_iff.mp e).1
  have q : xs[n] = w := (List.getElem?_eq_some_iff.mp e).2
  have : wIx (.tup xs) (.int (n : Int)) st = .ok w st := by simp [wIx, dkOf, seqL, tupL, wNth, atI, ixN, h, q]
  rw [this]; exact Iff.rfl
theorem wp_ixLi {xs : List W} {i : Int} {w : W} (h : 0 ≤ i) (e : xs[i.toNat]? = some w) : wp (wIx (.lst xs) (.int i) st) P E ↔ P w st := by
  have : wp (wIx (.lst xs) (.int (i.toNat : Int)) st) P E ↔ P w st := wp_ixL e
  rwa [Int.toNat_of_nonneg h] at this
theorem wp_ixT0 {w : W} {xs : List W} : wp (wIx (.tup (w :: xs)) (.int 0) st) P E ↔ P w st := wp_ixT (n := 0) rfl
theorem wp_ixT1 {v w : W} {xs : List W} : wp (wIx (.tup (v :: w :: xs)) (.int 1) st) P E ↔ P w st := wp_ixT (n := 1) rfl
theorem wp_ixL0 {w : W} {xs : List W} : wp (wIx (.lst (w :: xs)) (.int 0) st) P E ↔ P w st := wp_ixL (n := 0) rfl
theorem wp_ixR {i n : Nat} {xs : List W} {w : W} (e : st[i]? = some (.lst xs)) (e2 : xs[n]? = some w) : wp (wIx (.ref i) (.int (n : Int)) st) P E ↔ P w st := by
  have h : n < xs.length := (List.getElem?_eq_some_iff.mp e2).1
  have q : xs[n] = w := (List.getElem?_eq_some_iff.mp e2).2
  have : wIx (.ref i) (.int (n : Int)) st = .ok w st := by simp [wIx, dkOf, seqL, e, wNth, atI, ixN, h, q]
  rw [this]; exact Iff.rfl
end
section
variable {N : KN} {R : KR} {B C : KN} {E : KX} {env : Ev} {st : Sto}
theorem ws_to {α : Type} {r : Rs α} {k : α → Sto → SRs} : ws (r.to env k) N R B C E ↔ wp r (fun a s => ws (k a s) N R B C E) (fun x s => E x env s) := by cases r <;> exact Iff.rfl
theorem ws_seq {m k : MS} : ws (sSeq m k env st) N R B C E ↔ ws (m env st) (fun e s => ws (k e s) N R B C E) R B C E := by
  unfold sSeq
  cases m env st <;> exact Iff.rfl
theorem ws_sNx : ws (sNx env st) N R B C E ↔ N env st := Iff.rfl
theorem ws_ret {m : M W} : ws (sRet m env st) N R B C E ↔ wp (m env st) R (fun x s => E x env s) := by
  unfold sRet; rw [ws_to]; exact Iff.rfl
theorem ws_retN : ws (sRetN env st) N R B C E ↔ R .non st := Iff.rfl
theorem ws_expr {m : M W} : ws (sExpr m env st) N R B C E ↔ wp (m env st) (fun _ s => N env s) (fun x s => E x env s) := by
  unfold sExpr; rw [ws_to]; exact Iff.rfl
theorem ws_ite {c : Prop} [Decidable c] {r k : SRs} : ws (if c then r else k) N R B C E ↔ if c then ws r N R B C E else ws k N R B C E := by
  by_cases h : c <;> simp [h]
theorem ws_if {c : M Bool} {m k : MS} : ws (sIf c m k env st) N R B C E ↔ wp (c env st) (fun b s => if b = true then ws (m env s) N R B C E else ws (k env s) N R B C E) (fun x s => E x env s) := by
  unfold sIf; simp only [ws_to, ws_ite]
theorem ws_set {i : Nat} {m : M W} : ws (sAsg m (gName' i) env st) N R B C E ↔ wp (m env st) (fun w s => N (env.set i (some w)) s) (fun x s => E x env s) := by
  unfold sAsg; rw [ws_to]; exact Iff.rfl
def stR (o i w : W) (s : Sto) : Rs Unit := match wStore o i w s with
  | some s3 => .ok () s3
  | none => .stuck
theorem wp_stR {o i w : W} {s s3 : Sto} {P : Unit → Sto → Prop} {E : Xc → Sto → Prop} (e : wStore o i w s = some s3) : wp (stR o i w s) P E ↔ P () s3 := by
  unfold stR; rw [e]; exact Iff.rfl
theorem ws_sub {mo mi : M W} {m : M W} : ws (sAsg m (gSub' mo mi) env st) N R B C E ↔ wp (m env st) (fun w s => wp (mo env s) (fun o s1 => wp (mi env s1) (fun i s2 => wp (stR o i w s2) (fun _ s3 => N env s3) NoE) NoE) NoE) (fun x s => E x env s) := by
  unfold sAsg; rw [ws_to]
  have e : ∀ w s, ws (gDo (gSub' mo mi w env s)) N R B C E ↔ wp (mo env s) (fun o s1 => wp (mi env s1) (fun i s2 => wp (stR o i w s2) (fun _ s3 => N env s3) NoE) NoE) NoE := by
    intro w s
    unfold gSub' stR
    cases h1 : mo env s with
    | ok o s1 =>
      cases h2 : mi env s1 with
      | ok i s2 =>
        cases h3 : wStore o i w s2 with
        | some s3 => simp only [h2, h3, wp]; exact Iff.rfl
        | none => simp only [h2, h3, wp]; exact Iff.rfl
      | ex x s2 => simp only [h2, wp]; exact Iff.rfl
      | stuck => simp only [h2, wp]; exact Iff.rfl
    | ex x s2 => exact Iff.rfl
    | stuck => exact Iff.rfl
  simp only [e]
theorem ws_for {mi : MI} {g : MG} {b : MS} : ws (sFor mi g b env st) N R B C E ↔ wp (mi env st) (fun s st1 => ws (forS s g b s.fuel 0 env st1) N R B C E) (fun x s => E x env s) := by
  unfold sFor; rw [ws_to]
theorem ws_if_to {c : M Bool} {m k : MS} {b : Bool} (h : wp (c env st) (fun x s => x = b ∧ s = st) NoE) (p : ws (if b = true then m env st else k env st) N R B C E) : ws (sIf c m k env st) N R B C E := by
  rw [ws_if]
  refine wp_no h fun x s z => ?_
  rw [z.1, z.2, ← ws_ite]
  exact p
/-- a walk over things that stand still -/
theorem forS_fix {xs : List W} {g : MG} {b : MS} (inv : Nat → KN) (h0 : inv 0 env st)
    (step : ∀ (i : Nat) (w : W), xs[i]? = some w → ∀ env st, inv i env st → ∃ env1 st1, g w env st = some (env1, st1) ∧ ws (b env1 st1) (inv (i + 1)) R N (inv (i + 1)) E)
    (fin : ∀ env st, inv xs.length env st → N env st) : ws (forS (fixS xs) g b (fixS xs).fuel 0 env st) N R B C E := by
  suffices H : ∀ m i env st, xs.length < i + m → i ≤ xs.length → inv i env st → ws (forS (fixS xs) g b m i env st) N R B C E by
    refine H _ _ _ _ ?_ (Nat.zero_le _) h0
    show xs.length < 0 + (xs.length + 1)
    omega
  intro m
  induction m with
  | zero => intro i env st h1 h2; omega
  | succ m ih =>
    intro i env st h1 h2 hi
    show ws (match (some xs[i]? : Option (Option W)) with | some (some w) => _ | some none => _ | none => _) N R B C E
    by_cases e : i = xs.length
    · rw [List.getElem?_eq_none (by omega)]
      subst e
      exact fin env st hi
    · have hl : i < xs.length := by omega
      rw [List.getElem?_eq_getElem hl]
      obtain ⟨env1, st1, e1, q⟩ := step i xs[i] (List.getElem?_eq_getElem hl) env st hi
      simp only [e1]
      cases e2 : b env1 st1 with
      | nx e s => rw [e2] at q; exact ih (i + 1) e s (by omega) (by omega) q
      | ct e s => rw [e2] at q; exact ih (i + 1) e s (by omega) (by omega) q
      | bk e s => rw [e2] at q; exact q
      | rt w s => rw [e2] at q; exact q
      | ex x e s => rw [e2] at q; exact q
      | stuck => rw [e2] at q; exact q
end
section
variable {Q : List W → Sto → Prop} {E : Xc → Sto → Prop} {env : Ev} {st : Sto}
/-- a comprehension over things that stand still -/
theorem compS_fix {xs : List W} {t : CT} {cond : M Bool} {elt : M W} (inv : Nat → List W → Sto → Prop) (h0 : inv 0 [] st) (hl : xs.length ≤ sizeLine)
    (hacc : ∀ i acc st, inv i acc st → acc.length ≤ i)
    (step : ∀ (i : Nat) (w : W), xs[i]? = some w → ∀ acc st, inv i acc st → ∃ env1, t.put w env = some env1 ∧ wp (cond env1 st) (fun c s => if c = true then wp (elt env1 s) (fun v s2 => inv (i + 1) (acc ++ [v]) s2) NoE else inv (i + 1) acc s) NoE)
    (fin : ∀ acc st, inv xs.length acc st → Q acc st) : wp (compS (fixS xs) t cond elt env (fixS xs).fuel 0 [] st) Q E := by
  suffices H : ∀ m i acc st, xs.length < i + m → i ≤ xs.length → inv i acc st → wp (compS (fixS xs) t cond elt env m i acc st) Q E by
    refine H _ _ _ _ ?_ (Nat.zero_le _) h0
    show xs.length < 0 + (xs.length + 1)
    omega
  intro m
  induction m with
  | zero => intro i acc st h1 h2; omega
  | succ m ih =>
    intro i acc st h1 h2 hi
    show wp (match (some xs[i]? : Option (Option W)) with | some (some w) => _ | some none => _ | none => _) Q E
    by_cases e : i = xs.length
    · rw [List.getElem?_eq_none (by omega)]
      subst e
      exact fin acc st hi
    · have hx : i < xs.length := by omega
      rw [List.getElem?_eq_getElem hx]
      obtain ⟨env1, e1, q⟩ := step i xs[i] (List.getElem?_eq_getElem hx) acc st hi
      obtain ⟨c, s, e2, q⟩ := wp_get q
      simp only [e1, e2]
      cases c with
      | false => exact ih (i + 1) acc s (by omega) (by omega) q
      | true =>
        obtain ⟨v, s2, e3, q⟩ := wp_get q
        have := hacc i acc st hi
        simp only [e3]
        rw [if_pos (by omega)]
        exact ih (i + 1) (acc ++ [v]) s2 (by omega) (by omega) q
end
section
variable {P : Src → Sto → Prop} {E : Xc → Sto → Prop} {env : Ev} {st : Sto}
def srcL (w : W) (s : Sto) : Rs Src := match w with
  | .lst xs => .ok (fixS xs) s
  | .scr xs => .ok (fixS xs) s
  | .tup xs => .stuck
  | .ref n => match s[n]? with
    | some (.lst xs) => .ok (nodS n xs.length) s
    | _ => .stuck
  | _ => .stuck
def srcA (w : W) (s : Sto) : Rs Src := match w with
  | .tup xs => .ok (fixS xs) s
  | w => srcL w s
theorem wp_iL {m : M W} : wp (iL m env st) P E ↔ wp (m env st) (fun w s => wp (srcL w s) P E) E := by
  unfold iL; rw [wp_bind] <;> exact Iff.rfl
theorem wp_iT {m : M W} : wp (iT m env st) P E ↔ wp (m env st) (fun w s => wp (match w with | .tup xs => .ok (fixS xs) s | _ => .stuck) P E) E := by
  unfold iT; rw [wp_bind] <;> exact Iff.rfl
theorem wp_iA {m : M W} : wp (iA m env st) P E ↔ wp (m env st) (fun w s => wp (srcA w s) P E) E := by
  unfold iA
  cases e : m env st with
  | ok w s =>
    cases w with
    | tup xs => simp only [wp_iT, e]; exact Iff.rfl
    | _ => simp only [wp_iL, e]; exact Iff.rfl
  | ex x s => simp only [wp_iL, e]; exact Iff.rfl
  | stuck => simp only [wp_iL, e]; exact Iff.rfl
theorem wp_srcL {xs : List W} : wp (srcL (.lst xs) st) P E ↔ P (fixS xs) st := Iff.rfl
theorem wp_srcS {xs : List W} : wp (srcL (.scr xs) st) P E ↔ P (fixS xs) st := Iff.rfl
theorem wp_srcAL {xs : List W} : wp (srcA (.lst xs) st) P E ↔ P (fixS xs) st := Iff.rfl
theorem wp_srcAT {xs : List W} : wp (srcA (.tup xs) st) P E ↔ P (fixS xs) st := Iff.rfl
def rng1 (ws : List W) (s : Sto) : Rs Src := match ws with
  | [.int j] => if small62 j then .ok (fixS (rngW 0 j.toNat)) s else .stuck
  | _ => .stuck
def rng2 (ws : List W) (s : Sto) : Rs Src := match ws with
  | [.int i, .int j] => if small62 i ∧ small62 j then .ok (fixS (rngW i (j - i).toNat)) s else .stuck
  | _ => .stuck
theorem wp_iR1 {m : M (List W)} : wp (iR1 m env st) P E ↔ wp (m env st) (fun w s => wp (rng1 w s) P E) E := by
  unfold iR1; rw [wp_bind] <;> exact Iff.rfl
theorem wp_iR2 {m : M (List W)} : wp (iR2 m env st) P E ↔ wp (m env st) (fun w s => wp (rng2 w s) P E) E := by
  unfold iR2; rw [wp_bind] <;> exact Iff.rfl
theorem wp_rng1 {j : Int} : wp (rng1 [.int j] st) P E ↔ Mi.small62 j = true ∧ P (fixS (rngW 0 j.toNat)) st := by
  show wp (if Mi.small62 j then .ok (fixS (rngW 0 j.toNat)) st else .stuck) P E ↔ _
  rw [wp_ite]
  by_cases h : Mi.small62 j = true
  · rw [if_pos h]; exact ⟨fun z => ⟨h, z⟩, fun z => z.2⟩
  · rw [if_neg h]; exact ⟨fun z => z.elim, fun z => (h z.1).elim⟩
theorem wp_rng2 {i j : Int} : wp (rng2 [.int i, .int j] st) P E ↔ (Mi.small62 i ∧ Mi.small62 j) ∧ P (fixS (rngW i (j - i).toNat)) st := by
  show wp (if small62 i ∧ small62 j then .ok (fixS (rngW i (j - i).toNat)) st else .stuck) P E ↔ _
  rw [wp_ite]
  by_cases h : (Mi.small62 i ∧ Mi.small62 j : Prop)
  · rw [if_pos h]; exact ⟨fun z => ⟨h, z⟩, fun z => z.2⟩
  · rw [if_neg h]; exact ⟨fun z => z.elim, fun z => (h z.1).elim⟩
def srcR (w : W) (s : Sto) : Rs Src := match w with
  | .lst xs => .ok (fixS xs.reverse) s
  | .tup xs => .ok (fixS xs.reverse) s
  | _ => .stuck
theorem wp_iRv {m : M W} : wp (iRv m env st) P E ↔ wp (m env st) (fun w s => wp (srcR w s) P E) E := by
  unfold iRv; rw [wp_bind] <;> exact Iff.rfl
theorem wp_srcRL {xs : List W} : wp (srcR (.lst xs) st) P E ↔ P (fixS xs.reverse) st := Iff.rfl
theorem wp_srcRT {xs : List W} : wp (srcR (.tup xs) st) P E ↔ P (fixS xs.reverse) st := Iff.rfl
/-- what enumerate tells -/
def enL (xs : List W) : List W := (List.range xs.length).map fun (i : Nat) => W.tup [.int i, xs.getD i .non]
theorem enL_at {xs : List W} {i : Nat} {s : Sto} : (enumW (fixS xs)).at_ i s = (fixS (enL xs)).at_ i s := by
  show (match (some xs[i]? : Option (Option W)) with | some (some w) => some (some (.tup [.int i, w])) | some none => some none | none => none) = some (enL xs)[i]?
  unfold enL
  rw [List.getElem?_map]
  by_cases h : i < xs.length
  · rw [List.getElem?_eq_getElem h, List.getElem?_eq_getElem (by simpa using h)]
    simp [List.getD, h]
  · rw [List.getElem?_eq_none (by omega), List.getElem?_eq_none (by simp; omega)]
    rfl
theorem en_src {xs : List W} : enumW (fixS xs) = fixS (enL xs) := by
  have e1 : (enumW (fixS xs)).fuel = (fixS (enL xs)).fuel := by simp [enumW, fixS, enL]
  have e2 : (enumW (fixS xs)).at_ = (fixS (enL xs)).at_ := by funext i s; exact enL_at
  cases h : enumW (fixS xs)
  cases k : fixS (enL xs)
  rw [h, k] at e1 e2
  simp only at e1 e2
  rw [e1, e2]
def srcE (ws : List W) (s : Sto) : Rs Src := match ws with
  | [.tup xs] => .ok (fixS (enL xs)) s
  | [.lst xs] => .ok (fixS (enL xs)) s
  | [.scr xs] => .ok (fixS (enL xs)) s
  | [.ref n] => match s[n]? with
    | some (.lst xs) => .ok (enumW (nodS n xs.length)) s
    | _ => .stuck
  | _ => .stuck
theorem iE_src {m : M (List W)} : iE m env st = (m env st).bind fun ws s => match ws with | [.tup _] => .stuck | ws => srcE ws s := by
  unfold iE
  cases m env st with
  | ok ws s =>
    show (match ws with | [w] => _ | _ => _) = _
    cases ws with
    | nil => rfl
    | cons w r =>
      cases r with
      | nil =>
        cases w with
        | ref n =>
          show (match srcOf s (.ref n) with | some src => Rs.ok (enumW src) s | none => .stuck) = srcE [.ref n] s
          simp only [srcOf, srcE]
          cases s[n]? with
          | none => rfl
          | some nd => cases nd <;> rfl
        | lst xs =>
          show Rs.ok (enumW (fixS xs)) s = srcE [.lst xs] s
          rw [en_src]; rfl
        | scr xs =>
          show Rs.ok (enumW (fixS xs)) s = srcE [.scr xs] s
          rw [en_src]; rfl
        | _ => rfl
      | cons a b => cases w <;> rfl
  | ex x s => rfl
  | stuck => rfl
theorem wp_iEA {m : M (List W)} : wp (iEA m env st) P E ↔ wp (m env st) (fun ws s => wp (srcE ws s) P E) E := by
  unfold iEA
  cases e : m env st with
  | ok ws s =>
    have k : wp (iE m env st) P E ↔ wp (match ws with | [.tup _] => .stuck | ws => srcE ws s) P E := by rw [iE_src, e]; exact Iff.rfl
    have k2 : wp (iET m env st) P E ↔ wp (match ws with | [.tup xs] => .ok (enumW (fixS xs)) s | _ => .stuck) P E := by unfold iET; rw [e]; exact Iff.rfl
    cases ws with
    | nil => exact k
    | cons w r =>
      cases r with
      | cons a b => cases w <;> exact k
      | nil =>
        cases w with
        | tup xs =>
          refine k2.trans ?_
          show P (enumW (fixS xs)) s ↔ P (fixS (enL xs)) s
          rw [en_src]
        | _ => exact k
  | ex x s =>
    show wp (iE m env st) P E ↔ _
    rw [iE_src, e]; exact Iff.rfl
  | stuck =>
    show wp (iE m env st) P E ↔ _
    rw [iE_src, e]; exact Iff.rfl
theorem wp_srcEL {xs : List W} : wp (srcE [.lst xs] st) P E ↔ P (fixS (enL xs)) st := Iff.rfl
theorem wp_srcET {xs : List W} : wp (srcE [.tup xs] st) P E ↔ P (fixS (enL xs)) st := Iff.rfl
end
theorem rng_get {lo : Int} {n i : Nat} {w : W} (e : (rngW lo n)[i]? = some w) : w = .int (lo + i) ∧ i < n := by
  unfold rngW at e
  rw [List.getElem?_map] at e
  by_cases h : i < n
  · rw [List.getElem?_eq_getElem (by simpa using h)] at e
    simp at e
    exact ⟨e.symm, h⟩
  · rw [List.getElem?_eq_none (by simp; omega)] at e
    simp at e
theorem rng_len {lo : Int} {n : Nat} : (rngW lo n).length = n := by simp [rngW]
theorem wp_cut63 {xs : List W} {st : Sto} {P : W → Sto → Prop} {E : Xc → Sto → Prop} : wp (wSl true (.scr xs) none (some 63) st) P E ↔ P (.lst (xs.take 63)) st := by
  have : wSl true (.scr xs) none (some 63) st = .ok (.lst (xs.take 63)) st := by
    simp only [wSl, seqL, newL, cutW, if_true]
    have e1 : HT.sIx xs.length 0 none = 0 := rfl
    have e2 : HT.sIx xs.length xs.length (some 63) = min 63 xs.length := by
      rw [show (63 : Int) = ((63 : Nat) : Int) by rfl, HT.sIx_nat]
    rw [e1, e2]
    simp only [Nat.sub_zero, List.drop_zero]
    by_cases h : 63 ≤ xs.length
    · rw [Nat.min_eq_left h]
    · rw [Nat.min_eq_right (by omega), List.take_of_length_le (Nat.le_refl _), List.take_of_length_le (by omega)]
  rw [this]; exact Iff.rfl
/-- a def's run -/
theorem wp_run {n : Nat} {m : MS} {ws' : List W} {st : Sto} {P : W → Sto → Prop} {E : Xc → Sto → Prop} :
    wp (runOf n m ws' st) P E ↔ ws (m (ws'.map some ++ List.replicate (n - ws'.length) none) st) (fun _ s => P .non s) P (fun _ _ => False) (fun _ _ => False) (fun x _ s => E x s) := by
  unfold runOf outOf
  cases m (ws'.map some ++ List.replicate (n - ws'.length) none) st <;> exact Iff.rfl
end Mi
/-! more of what a run of the mirror comes to -/
namespace Mi
open PySem L2
section
variable {N : KN} {R : KR} {B C : KN} {E : KX} {env : Ev} {st : Sto}
theorem nod_at {p len i : Nat} {st : Sto} {xs : List W} (e : st[p]? = some (.lst xs)) : (nodS p len).at_ i st = some xs[i]? := by
  show (match st[p]? with | some (.lst xs) => some xs[i]? | _ => none) = _
  rw [e]
end
section
variable {Q : List W → Sto → Prop} {E : Xc → Sto → Prop} {env : Ev} {st : Sto}
theorem compS_src {src : Src} {xs : List W} {t : CT} {cond : M Bool} {elt : M W} (inv : Nat → List W → Sto → Prop) (hf : src.fuel = xs.length + 1) (hat : ∀ i acc st, inv i acc st → src.at_ i st = some xs[i]?) (h0 : inv 0 [] st) (hl : xs.length ≤ sizeLine)
    (hacc : ∀ i acc st, inv i acc st → acc.length ≤ i)
    (step : ∀ (i : Nat) (w : W), xs[i]? = some w → ∀ acc st, inv i acc st → ∃ env1, t.put w env = some env1 ∧ wp (cond env1 st) (fun c s => if c = true then wp (elt env1 s) (fun v s2 => inv (i + 1) (acc ++ [v]) s2) NoE else inv (i + 1) acc s) NoE)
    (fin : ∀ acc st, inv xs.length acc st → Q acc st) : wp (compS src t cond elt env src.fuel 0 [] st) Q E := by
  suffices H : ∀ m i acc st, xs.length < i + m → i ≤ xs.length → inv i acc st → wp (compS src t cond elt env m i acc st) Q E by
    refine H _ _ _ _ ?_ (Nat.zero_le _) h0
    rw [hf]
    omega
  intro m
  induction m with
  | zero => intro i acc st h1 h2; omega
  | succ m ih =>
    intro i acc st h1 h2 hi
    show wp (match src.at_ i st with | some (some w) => _ | some none => _ | none => _) Q E
    rw [hat i acc st hi]
    by_cases e : i = xs.length
    · rw [List.getElem?_eq_none (by omega)]
      subst e
      exact fin acc st hi
    · have hx : i < xs.length := by omega
      rw [List.getElem?_eq_getElem hx]
      obtain ⟨env1, e1, q⟩ := step i xs[i] (List.getElem?_eq_getElem hx) acc st hi
      obtain ⟨c, s, e2, q⟩ := wp_get q
      simp only [e1, e2]
      cases c with
      | false => exact ih (i + 1) acc s (by omega) (by omega) q
      | true =>
        obtain ⟨v, s2, e3, q⟩ := wp_get q
        have := hacc i acc st hi
        simp only [e3]
        rw [if_pos (by omega)]
        exact ih (i + 1) (acc ++ [v]) s2 (by omega) (by omega) q
theorem take_next {α : Type} {l : List α} {i : Nat} {x : α} (e : l[i]? = some x) : l.take (i + 1) = l.take i ++ [x] := by
  rw [List.take_add_one, e]; rfl
/-- a comprehension that changes nothing -/
theorem compS_map' {src : Src} {α : Type} {ys : List α} {enc : α → W} {c : α → Bool} {f : α → W} {t : CT} {cond : M Bool} {elt : M W} (hf : src.fuel = ys.length + 1) (hat : ∀ i, src.at_ i st = some (ys.map enc)[i]?) (hl : ys.length ≤ sizeLine)
    (h : ∀ y ∈ ys, ∃ env1, t.put (enc y) env = some env1 ∧ wp (cond env1 st) (fun b s => b = c y ∧ s = st) NoE ∧ (c y = true → wp (elt env1 st) (fun v s => v = f y ∧ s = st) NoE))
    (q : Q ((ys.filter c).map f) st) : wp (compS src t cond elt env src.fuel 0 [] st) Q E := by
  refine compS_src (xs := ys.map enc) (fun i acc s => s = st ∧ acc = ((ys.take i).filter c).map f) (by rw [hf, List.length_map]) (fun i acc s z => by rw [z.1]; exact hat i) ⟨rfl, by simp⟩ (by rw [List.length_map]; exact hl) (fun i acc s z => ?_) (fun i w e acc s z => ?_) (fun acc s z => ?_)
  · rw [z.2, List.length_map]
    exact Nat.le_trans (List.length_filter_le ..) (by rw [List.length_take]; omega)
  · obtain ⟨rfl, rfl⟩ := z
    rw [List.getElem?_map] at e
    cases ey : ys[i]? with
    | none => rw [ey] at e; simp at e
    | some y =>
      rw [ey] at e
      simp only [Option.map_some, Option.some.injEq] at e
      subst e
      obtain ⟨env1, e1, e2, e3⟩ := h y (List.mem_of_getElem? ey)
      refine ⟨env1, e1, wp_mono e2 ?_ (fun _ _ z => z)⟩
      rintro b s' ⟨rfl, rfl⟩
      rw [take_next ey, List.filter_append, List.map_append]
      by_cases hc : c y = true
      · rw [if_pos hc]
        refine wp_mono (e3 hc) ?_ (fun _ _ z => z)
        rintro v s' ⟨rfl, rfl⟩
        exact ⟨rfl, by simp [hc]⟩
      · rw [if_neg hc]
        exact ⟨rfl, by simp [hc]⟩
  · obtain ⟨rfl, rfl⟩ := z
    rw [List.length_map, List.take_of_length_le (Nat.le_refl _)]
    exact q
theorem compS_map {α : Type} {ys : List α} {enc : α → W} (c : α → Bool) (f : α → W) {t : CT} {cond : M Bool} {elt : M W} (hl : ys.length ≤ sizeLine)
    (h : ∀ y ∈ ys, ∃ env1, t.put (enc y) env = some env1 ∧ wp (cond env1 st) (fun b s => b = c y ∧ s = st) NoE ∧ (c y = true → wp (elt env1 st) (fun v s => v = f y ∧ s = st) NoE))
    (q : Q ((ys.filter c).map f) st) : wp (compS (fixS (ys.map enc)) t cond elt env (fixS (ys.map enc)).fuel 0 [] st) Q E :=
  compS_map' (by simp [fixS]) (fun i => rfl) hl h q
end
section
variable {P : W → Sto → Prop} {E : Xc → Sto → Prop} {env : Ev} {st : Sto}
theorem wp_srcLR {p : Nat} {xs : List W} {P : Src → Sto → Prop} (e : st[p]? = some (.lst xs)) : wp (srcL (.ref p) st) P E ↔ P (nodS p xs.length) st := by
  have : srcL (.ref p) st = .ok (nodS p xs.length) st := by simp [srcL, e]
  rw [this]; exact Iff.rfl
theorem bls_b : ∀ bs : List Bool, blsOf (bs.map W.bl) = some bs
  | [] => rfl
  | b :: bs => by simp only [List.map_cons, blsOf, bls_b bs, Option.map_some]
theorem wp_all {bs : List Bool} : wp (fAll [.lst (bs.map W.bl)] st) P E ↔ P (.bl (bs.all id)) st := by
  have : fAll [.lst (bs.map W.bl)] st = .ok (.bl (bs.all id)) st := by simp only [fAll, seqL, bls_b]
  rw [this]; exact Iff.rfl
theorem wp_any {bs : List Bool} : wp (fAny [.lst (bs.map W.bl)] st) P E ↔ P (.bl (bs.any id)) st := by
  have : fAny [.lst (bs.map W.bl)] st = .ok (.bl (bs.any id)) st := by simp only [fAny, seqL, bls_b]
  rw [this]; exact Iff.rfl
theorem wp_isB {a : W} {c : Bool} : wp (wIs a (.bl c) st) P E ↔ P (.bl (isBl c a)) st := Iff.rfl
theorem wp_isNotB {a : W} {c : Bool} : wp (wIsNot a (.bl c) st) P E ↔ P (.bl (!isBl c a)) st := Iff.rfl
theorem wp_eqB {a b : Bool} : wp (wEq (.bl a) (.bl b) st) P E ↔ P (.bl (decide (a = b))) st := by
  have : wEq (.bl a) (.bl b) st = .ok (.bl (decide (a = b))) st := by cases a <;> cases b <;> rfl
  rw [this]; exact Iff.rfl
theorem wp_neB {a b : Bool} : wp (wNe (.bl a) (.bl b) st) P E ↔ P (.bl (!decide (a = b))) st := by
  have : wNe (.bl a) (.bl b) st = .ok (.bl (!decide (a = b))) st := by cases a <;> cases b <;> rfl
  rw [this]; exact Iff.rfl
/-- slices -/
theorem wp_slT {fz : Bool} {xs : List W} {lo hi : Option Int} : wp (wSl fz (.tup xs) lo hi st) P E ↔ P (.tup (cutW xs lo hi)) st := Iff.rfl
theorem wp_slL {xs : List W} {lo hi : Option Int} : wp (wSl true (.lst xs) lo hi st) P E ↔ P (.lst (cutW xs lo hi)) st := Iff.rfl
theorem wp_rev {fz : Bool} {m : M W} : wp (mRev fz m env st) P E ↔ wp (m env st) (fun a s => wp (wRevA fz a s) P E) E := by
  unfold mRev; simp only [wp_bind]
theorem wp_revT {fz : Bool} {xs : List W} : wp (wRevA fz (.tup xs) st) P E ↔ P (.tup xs.reverse) st := Iff.rfl
theorem wp_revL {xs : List W} : wp (wRevA true (.lst xs) st) P E ↔ P (.lst xs.reverse) st := Iff.rfl
theorem wp_disp {m : M (List (Key × W))} : wp (mDisp m env st) P E ↔ wp (m env st) (fun kvs s => kvs.length ≤ 15 ∧ P (.ref s.length) (s ++ [.dk (mergeKW [] kvs)])) NoE := by
  unfold mDisp
  cases m env st with
  | ok kvs s =>
    show wp (if kvs.length ≤ 15 then newD (mergeKW [] kvs) s else .stuck) P E ↔ _
    rw [wp_ite]
    by_cases h : kvs.length ≤ 15
    · simp only [h, if_true, true_and, wp_ok]; exact Iff.rfl
    · simp only [h, if_false, false_and, wp_ok]; exact Iff.rfl
  | ex x s => exact Iff.rfl
  | stuck => exact Iff.rfl
theorem wp_pair0 {Q : List (Key × W) → Sto → Prop} : wp (mPair0 env st) Q E ↔ Q [] st := Iff.rfl
theorem wp_pair {Q : List (Key × W) → Sto → Prop} {mk mv : M W} {mr : M (List (Key × W))} : wp (mPair mk mv mr env st) Q E ↔ wp (mk env st) (fun k s => wp (mv env s) (fun v s2 => ∃ kk, keyOf k = some kk ∧ wp (mr env s2) (fun r s3 => Q ((kk, v) :: r) s3) E) E) E := by
  unfold mPair; simp only [wp_bind]
  constructor
  · intro h
    refine wp_mono h (fun k s h => wp_mono h (fun v s2 h => ?_) (fun _ _ z => z)) (fun _ _ z => z)
    split at h
    · rename_i kk e; exact ⟨kk, e, by simpa only [wp_bind, wp_ok] using h⟩
    · exact h.elim
  · intro h
    refine wp_mono h (fun k s h => wp_mono h (fun v s2 h => ?_) (fun _ _ z => z)) (fun _ _ z => z)
    obtain ⟨kk, e, h⟩ := h
    rw [e]
    simpa only [wp_bind, wp_ok] using h
end
end Mi
/-! errors in a run of the mirror -/
namespace Mi
open PySem L2
section
variable {N : KN} {R : KR} {B C : KN} {E : KX} {env : Ev} {st : Sto}
theorem ws_nxR : ws (.nx env st) N R B C E ↔ N env st := Iff.rfl
theorem ws_raise {c : Nat} : ws (sRaise c env st) N R B C E ↔ E (.plain c) env st := Iff.rfl
end
end Mi
/-! objects, dicts, while loops in a run of the mirror -/
namespace Mi
open PySem L2
/-! objects -/
def fldR (cs : List Nat) (f : Str) (a : W) (s : Sto) : Rs W := match a with
  | .ref i => match s[i]? with
    | some (.ins c fs) => if cs.contains c then (match fs.lookup f with | some w => .ok w s | none => .stuck) else .stuck
    | _ => .stuck
  | _ => .stuck
def methF (tb : List (Nat × RunM)) (m : Str) (o : W) (s : Sto) : Option RunM := match o with
  | .ref i => match s[i]? with
    | some (.ins c fs) => match fs.lookup m, tb.lookup c with
      | none, some run => some run
      | _, _ => none
    | _ => none
  | _ => none
def setR (cs : List Nat) (f : Str) (o v : W) (s : Sto) : Rs Unit := match wSetF cs f o v s with
  | some s3 => .ok () s3
  | none => .stuck
section
variable {P : W → Sto → Prop} {PB : Bool → Sto → Prop} {PL : List W → Sto → Prop} {E : Xc → Sto → Prop} {env : Ev} {st : Sto}
theorem wp_fldF {cs : List Nat} {f : Str} {m : M W} : wp (mFld cs f m env st) P E ↔ wp (m env st) (fun a s => wp (fldR cs f a s) P E) E := wp_fld
theorem wp_fldR {cs : List Nat} {f : Str} {i c : Nat} {fs : List (Str × W)} {w : W} (e : st[i]? = some (.ins c fs)) (hc : cs.contains c = true) (hl : fs.lookup f = some w) : wp (fldR cs f (.ref i) st) P E ↔ P w st := by
  have : fldR cs f (.ref i) st = .ok w st := by simp only [fldR, e, hc, hl, if_true]
  rw [this]; exact Iff.rfl
theorem wp_meth {tb : List (Nat × RunM)} {m : Str} {mo : M W} {ma : M (List W)} : wp (mMeth tb m mo ma env st) P E ↔ wp (mo env st) (fun o s => ∃ run, methF tb m o s = some run ∧ wp (ma env s) (fun ws s2 => wp (run (o :: ws) s2) P E) E) E := by
  unfold mMeth; simp only [wp_bind]
  constructor
  · intro h
    refine wp_mono h (fun o s h => ?_) (fun _ _ z => z)
    unfold methF
    split at h
    · split at h
      · rename_i c fs e
        split at h
        · rename_i run e1 e2
          refine ⟨run, by simp only [e, e1, e2], ?_⟩
          rw [wp_bind] at h
          exact h
        · exact h.elim
      · exact h.elim
    · exact h.elim
  · intro h
    refine wp_mono h (fun o s h => ?_) (fun _ _ z => z)
    obtain ⟨run, e, h⟩ := h
    unfold methF at e
    split at e
    · split at e
      · rename_i c fs e0
        split at e
        · rename_i run' e1 e2
          cases e
          simp only [e0, e1, e2, wp_bind]
          exact h
        · cases e
      · cases e
    · cases e
theorem methF_of {tb : List (Nat × RunM)} {m : Str} {i c : Nat} {fs : List (Str × W)} {run : RunM} (e : st[i]? = some (.ins c fs)) (h1 : fs.lookup m = none) (h2 : tb.lookup c = some run) : methF tb m (.ref i) st = some run := by
  simp only [methF, e, h1, h2]
theorem wp_setR {cs : List Nat} {f : Str} {o v : W} {s3 : Sto} {PU : Unit → Sto → Prop} (e : wSetF cs f o v st = some s3) : wp (setR cs f o v st) PU E ↔ PU () s3 := by
  unfold setR; rw [e]; exact Iff.rfl
theorem setF_of {cs : List Nat} {f : Str} {v : W} {i c : Nat} {fs : List (Str × W)} (e : st[i]? = some (.ins c fs)) (hc : cs.contains c = true) (hl : fs.length < 1000) : wSetF cs f (.ref i) v st = some (st.set i (.ins c (putW f v fs))) := by
  simp only [wSetF, e, hc, hl, true_and, if_true]
end
section
variable {N : KN} {R : KR} {B C : KN} {E : KX} {env : Ev} {st : Sto}
theorem wp_iff {α : Type} {r : Rs α} {P P' : α → Sto → Prop} {E : Xc → Sto → Prop} (h : ∀ a s, P a s ↔ P' a s) : wp r P E ↔ wp r P' E := by
  cases r with
  | ok a s => exact h a s
  | ex x s => exact Iff.rfl
  | stuck => exact Iff.rfl
theorem ws_fld {cs : List Nat} {f : Str} {mo m : M W} : ws (sFld' cs f mo m env st) N R B C E ↔ wp (m env st) (fun v s => wp (mo env s) (fun o s2 => wp (setR cs f o v s2) (fun _ s3 => N env s3) NoE) (fun x s => E x env s)) (fun x s => E x env s) := by
  unfold sFld'
  rw [ws_to]
  refine wp_iff fun v s => ?_
  rw [ws_to]
  refine wp_iff fun o s2 => ?_
  unfold setR
  cases wSetF cs f o v s2 <;> exact Iff.rfl
theorem ws_faug {cs : List Nat} {f : Str} {g : Int → Int → Int} {mo m : M W} {i c : Nat} {fs : List (Str × W)} {a b : Int} (ho : wp (mo env st) (fun o s => o = .ref i ∧ s = st) NoE) (e : st[i]? = some (.ins c fs)) (hc : cs.contains c = true) (hl : fs.lookup f = some (.int a)) (hf : fs.length < 1000)
    (hm : wp (m env st) (fun o s => o = .int b ∧ s = st) NoE) (q : N env (st.set i (.ins c (putW f (.int (g a b)) fs)))) : ws (sFaug cs f g mo m env st) N R B C E := by
  unfold sFaug
  obtain ⟨o, s, e1, rfl, rfl⟩ := wp_get ho
  rw [e1]
  obtain ⟨v, s, e2, rfl, rfl⟩ := wp_get hm
  have e3 := setF_of (f := f) (v := .int (g a b)) (cs := [c]) e (by simp) hf
  simp only [Rs.to, e, hc, hl, e2, e3, if_true]
  exact q
/-! while -/
theorem ws_while {c : M Bool} {body : MS} {fuel : Nat} (inv : Nat → KN) {k : Nat} (h0 : inv k env st) (hf : k < fuel)
    (step : ∀ k env st, inv k env st → wp (c env st) (fun b s => if b = true then ws (body env s) (fun e s => ∃ j, j < k ∧ inv j e s) R N (fun e s => ∃ j, j < k ∧ inv j e s) E else N env s) (fun x s => E x env s)) :
    ws (sWhile fuel c body env st) N R B C E := by
  unfold sWhile
  induction fuel generalizing k env st with
  | zero => omega
  | succ n ih =>
    show ws ((c env st).to env fun b s => if b = true then _ else .nx env s) N R B C E
    rw [ws_to]
    refine wp_mono (step k env st h0) (fun b s h => ?_) (fun _ _ z => z)
    rw [ws_ite]
    split
    · rename_i hb
      rw [if_pos hb] at h
      cases e : body env s with
      | nx e2 s2 => rw [e] at h; obtain ⟨j, h1, h2⟩ := h; exact ih h2 (by omega)
      | ct e2 s2 => rw [e] at h; obtain ⟨j, h1, h2⟩ := h; exact ih h2 (by omega)
      | bk e2 s2 => rw [e] at h; exact h
      | rt w s2 => rw [e] at h; exact h
      | ex x e2 s2 => rw [e] at h; exact h
      | stuck => rw [e] at h; exact h
    · rename_i hb
      rw [if_neg hb] at h
      exact h
theorem ws_par {i j : Nat} {ma mb : M W} : ws (sPar i j ma mb env st) N R B C E ↔ wp (ma env st) (fun a s => wp (mb env s) (fun b s2 => N ((env.set i (some a)).set j (some b)) s2) (fun x s => E x env s)) (fun x s => E x env s) := by
  unfold sPar
  simp only [ws_to]
  exact Iff.rfl
end
/-! dicts -/
def dinR (neg : Bool) (k o : W) (s : Sto) : Rs W := match dkOf s o, keyOf k with
  | some kvs, some k => .ok (.bl (if neg = true then !(lkW kvs k).isSome else (lkW kvs k).isSome)) s
  | _, _ => .stuck
def dgetR (o k d : W) (s : Sto) : Rs W := match dkOf s o, keyOf k with
  | some kvs, some k => .ok ((lkW kvs k).getD d) s
  | _, _ => .stuck
def dsetR (o k d : W) (s : Sto) : Rs W := match nodD s o, keyOf k with
  | some (i, kvs), some k => if kvs.length < sizeLine then (match lkW kvs k with
    | some w => .ok w s
    | none => .ok d (s.set i (.dk (putKW kvs k d)))) else .stuck
  | _, _ => .stuck
def dpopR (o k : W) (s : Sto) : Rs W := match nodD s o, keyOf k with
  | some (i, kvs), some k => (match lkW kvs k with
    | some w => .ok w (s.set i (.dk (dropKW kvs k)))
    | none => .stuck)
  | _, _ => .stuck
section
variable {P : W → Sto → Prop} {PB : Bool → Sto → Prop} {E : Xc → Sto → Prop} {env : Ev} {st : Sto}
theorem wp_guard {α β : Type} {b : Bool} {r : Rs α} {k : α → Sto → Rs β} {Q : β → Sto → Prop} : wp (if b = true then r.bind k else .stuck) Q E ↔ b = true ∧ wp r (fun a s => wp (k a s) Q E) E := by
  cases b with
  | true => simp only [if_true, wp_bind, true_and]
  | false => exact ⟨fun z => z.elim, fun z => by simp at z⟩
theorem wp_din {neg : Bool} {mk mo : M W} : wp (mDin neg mk mo env st) P E ↔ wp (mk env st) (fun k s => wp (mo env s) (fun o s2 => wp (dinR neg k o s2) P E) E) E := by
  unfold mDin dinR; simp only [wp_bind] <;> exact Iff.rfl
theorem wp_dget2 {mo mk md : M W} : wp (mDget2 mo mk md env st) P E ↔ wp (mo env st) (fun o s1 => (dkOf s1 o).isSome = true ∧ wp (mk env s1) (fun k s2 => wp (md env s2) (fun d s3 => wp (dgetR o k d s3) P E) E) E) E := by
  unfold mDget2 dgetR; simp only [wp_bind, wp_guard] <;> exact Iff.rfl
theorem wp_dset2 {mo mk md : M W} : wp (mDset2 mo mk md env st) P E ↔ wp (mo env st) (fun o s1 => (dkOf s1 o).isSome = true ∧ wp (mk env s1) (fun k s2 => wp (md env s2) (fun d s3 => wp (dsetR o k d s3) P E) E) E) E := by
  unfold mDset2 dsetR; simp only [wp_bind, wp_guard] <;> exact Iff.rfl
theorem wp_dpop {mo mk : M W} : wp (mDpop mo mk env st) P E ↔ wp (mo env st) (fun o s1 => (dkOf s1 o).isSome = true ∧ wp (mk env s1) (fun k s2 => wp (dpopR o k s2) P E) E) E := by
  unfold mDpop dpopR; simp only [wp_bind, wp_guard] <;> exact Iff.rfl
theorem dk_is {i : Nat} {kvs : List (Key × W)} (e : st[i]? = some (.dk kvs)) : dkOf st (.ref i) = some kvs := by simp only [dkOf, e]
theorem nd_is {i : Nat} {kvs : List (Key × W)} (e : st[i]? = some (.dk kvs)) : nodD st (.ref i) = some (i, kvs) := by simp only [nodD, e]
theorem wp_ixD {i : Nat} {kvs : List (Key × W)} {b w : W} {k : Key} (e : st[i]? = some (.dk kvs)) (hk : keyOf b = some k) (hl : lkW kvs k = some w) : wp (wIx (.ref i) b st) P E ↔ P w st := by
  have : wIx (.ref i) b st = .ok w st := by simp only [wIx, dk_is e, hk, hl]
  rw [this]; exact Iff.rfl
theorem wp_dinR {neg : Bool} {i : Nat} {kvs : List (Key × W)} {b : W} {k : Key} (e : st[i]? = some (.dk kvs)) (hk : keyOf b = some k) : wp (dinR neg b (.ref i) st) P E ↔ P (.bl (if neg = true then !(lkW kvs k).isSome else (lkW kvs k).isSome)) st := by
  simp only [dinR, dk_is e, hk]; exact Iff.rfl
theorem wp_dgetR {i : Nat} {kvs : List (Key × W)} {b d : W} {k : Key} (e : st[i]? = some (.dk kvs)) (hk : keyOf b = some k) : wp (dgetR (.ref i) b d st) P E ↔ P ((lkW kvs k).getD d) st := by
  simp only [dgetR, dk_is e, hk]; exact Iff.rfl
theorem wp_dpopR {i : Nat} {kvs : List (Key × W)} {b w : W} {k : Key} (e : st[i]? = some (.dk kvs)) (hk : keyOf b = some k) (hl : lkW kvs k = some w) : wp (dpopR (.ref i) b st) P E ↔ P w (st.set i (.dk (dropKW kvs k))) := by
  simp only [dpopR, nd_is e, hk, hl]; exact Iff.rfl
theorem wp_dsetR_old {i : Nat} {kvs : List (Key × W)} {b d w : W} {k : Key} (e : st[i]? = some (.dk kvs)) (hk : keyOf b = some k) (hz : kvs.length < sizeLine) (hl : lkW kvs k = some w) : wp (dsetR (.ref i) b d st) P E ↔ P w st := by
  simp only [dsetR, nd_is e, hk, hz, if_true, hl]; exact Iff.rfl
theorem wp_dsetR_new {i : Nat} {kvs : List (Key × W)} {b d : W} {k : Key} (e : st[i]? = some (.dk kvs)) (hk : keyOf b = some k) (hz : kvs.length < sizeLine) (hl : lkW kvs k = none) : wp (dsetR (.ref i) b d st) P E ↔ P d (st.set i (.dk (putKW kvs k d))) := by
  simp only [dsetR, nd_is e, hk, hz, if_true, hl]; exact Iff.rfl
/-- d[k] = v -/
theorem put_d {i : Nat} {kvs : List (Key × W)} {b v : W} {k : Key} (e : st[i]? = some (.dk kvs)) (hk : keyOf b = some k) (hz : kvs.length < sizeLine) : wStore (.ref i) b v st = some (st.set i (.dk (putKW kvs k v))) := by
  have h1 : wSet (.ref i) b v st = none := by simp only [wSet, e]
  simp only [wStore, h1, wPutD, e, hk, hz, if_true]
theorem put_l {i : Nat} {xs : List W} {n : Nat} {v : W} (e : st[i]? = some (.lst xs)) (h : n < xs.length) : wStore (.ref i) (.int (n : Int)) v st = some (st.set i (.lst (xs.set n v))) := by
  simp [wStore, wSet, e, ixN, h]
theorem ws_del {N : KN} {R : KR} {B C : KN} {E : KX} {mo mk : M W} {i : Nat} {b : W} {kvs : List (Key × W)} {k : Key} (ho : wp (mo env st) (fun o s => o = .ref i ∧ s = st) NoE) (hm : wp (mk env st) (fun o s => o = b ∧ s = st) NoE)
    (e : st[i]? = some (.dk kvs)) (hk : keyOf b = some k) (hl : (lkW kvs k).isSome = true) (q : N env (st.set i (.dk (dropKW kvs k)))) : ws (sDel mo mk env st) N R B C E := by
  unfold sDel
  obtain ⟨o, s, e1, rfl, rfl⟩ := wp_get ho
  rw [e1]
  obtain ⟨v, s, e2, rfl, rfl⟩ := wp_get hm
  simp only [Rs.to, e2, nd_is e, hk, hl, if_true]
  exact q
theorem wp_newD {kvs : List (Key × W)} : wp (newD kvs st) P E ↔ P (.ref st.length) (st ++ [.dk kvs]) := Iff.rfl
theorem wp_make {c : Nat} {run : RunM} {m : M (List W)} : wp (mMake c run m env st) P E ↔ wp (m env st) (fun ws s => wp (run (.ref s.length :: ws) (s ++ [.ins c []])) (fun v s2 => v = .non ∧ P (.ref s.length) s2) E) E := by
  unfold mMake; simp only [wp_bind]
  constructor
  · intro h
    refine wp_mono h (fun o s h => wp_mono h (fun v s2 h => ?_) (fun _ _ z => z)) (fun _ _ z => z)
    split at h
    · exact ⟨rfl, h⟩
    · exact h.elim
  · intro h
    refine wp_mono h (fun o s h => wp_mono h (fun v s2 h => ?_) (fun _ _ z => z)) (fun _ _ z => z)
    rw [h.1]
    exact h.2
theorem ws_nxE {N : KN} {R : KR} {B C : KN} {E : KX} {env : Ev} {st : Sto} : ws (.nx env st) N R B C E ↔ N env st := Iff.rfl
end
end Mi
namespace Lw
open PySem PySem.Spec PyProof.Rows L2 Mi
/-! the text by places -/
def top (i : Nat) : Stmt := PySem.Challenge.pw_wholecommits_k01_whole_lives_of_disks.main.body.getD i (.Pass ⟨0, 0, 0, 0⟩)
abbrev s_law_hand : Stmt := top 25
abbrev N_law_hand : List Str := ["script", "cells", "cell"]
theorem sc_law_hand : FnScope N_law_hand ["script"] (defScope s_law_hand) := ⟨rfl, rfl, rfl, by decide +kernel, rfl, by decide +kernel, by decide +kernel⟩
abbrev s_law_draw : Stmt := top 26
abbrev N_law_draw : List Str := ["hand", "many", "cell", "digit", "number"]
theorem sc_law_draw : FnScope N_law_draw ["hand", "many"] (defScope s_law_draw) := ⟨rfl, rfl, rfl, by decide +kernel, rfl, by decide +kernel, by decide +kernel⟩
abbrev s_is_integer : Stmt := top 12
abbrev N_is_integer : List Str := ["thing"]
theorem sc_is_integer : FnScope N_is_integer ["thing"] (defScope s_is_integer) := ⟨rfl, rfl, rfl, by decide +kernel, rfl, by decide +kernel, by decide +kernel⟩
abbrev s_is_within : Stmt := top 13
abbrev N_is_within : List Str := ["low", "high", "thing"]
theorem sc_is_within : FnScope N_is_within ["low", "high", "thing"] (defScope s_is_within) := ⟨rfl, rfl, rfl, by decide +kernel, rfl, by decide +kernel, by decide +kernel⟩
abbrev s_Disk_init : Stmt := inClass (top 23) 0
abbrev N_Disk_init : List Str := ["self", "blocks"]
theorem sc_Disk_init : FnScope N_Disk_init ["self", "blocks"] (defScope s_Disk_init) := ⟨rfl, rfl, rfl, by decide +kernel, rfl, by decide +kernel, by decide +kernel⟩
abbrev s_law_book : Stmt := top 29
abbrev N_law_book : List Str := ["blocks"]
theorem sc_law_book : FnScope N_law_book ["blocks"] (defScope s_law_book) := ⟨rfl, rfl, rfl, by decide +kernel, rfl, by decide +kernel, by decide +kernel⟩
abbrev s_law_any : Stmt := top 27
abbrev N_law_any : List Str := ["hand", "some"]
theorem sc_law_any : FnScope N_law_any ["hand", "some"] (defScope s_law_any) := ⟨rfl, rfl, rfl, by decide +kernel, rfl, by decide +kernel, by decide +kernel⟩
abbrev s_law_content : Stmt := top 28
abbrev N_law_content : List Str := ["hand", "some", "many", "item"]
theorem sc_law_content : FnScope N_law_content ["hand"] (defScope s_law_content) := ⟨rfl, rfl, rfl, by decide +kernel, rfl, by decide +kernel, by decide +kernel⟩
abbrev s_law_wrote : Stmt := top 30
abbrev N_law_wrote : List Str := ["book", "block", "content"]
theorem sc_law_wrote : FnScope N_law_wrote ["book", "block", "content"] (defScope s_law_wrote) := ⟨rfl, rfl, rfl, by decide +kernel, rfl, by decide +kernel, by decide +kernel⟩
abbrev s_law_word : Stmt := top 35
abbrev N_law_word : List Str := ["call", "told", "e"]
theorem sc_law_word : FnScope N_law_word ["call"] (defScope s_law_word) := ⟨rfl, rfl, rfl, by decide +kernel, rfl, by decide +kernel, by decide +kernel⟩
abbrev s_Disk_blocks : Stmt := inClass (top 23) 1
abbrev N_Disk_blocks : List Str := ["self"]
theorem sc_Disk_blocks : FnScope N_Disk_blocks ["self"] (defScope s_Disk_blocks) := ⟨rfl, rfl, rfl, by decide +kernel, rfl, by decide +kernel, by decide +kernel⟩
abbrev s_Disk_demand_block : Stmt := inClass (top 23) 13
abbrev N_Disk_demand_block : List Str := ["self", "block"]
theorem sc_Disk_demand_block : FnScope N_Disk_demand_block ["self", "block"] (defScope s_Disk_demand_block) := ⟨rfl, rfl, rfl, by decide +kernel, rfl, by decide +kernel, by decide +kernel⟩
abbrev s_is_word : Stmt := top 14
abbrev N_is_word : List Str := ["thing", "sign"]
theorem sc_is_word : FnScope N_is_word ["thing"] (defScope s_is_word) := ⟨rfl, rfl, rfl, by decide +kernel, rfl, by decide +kernel, by decide +kernel⟩
abbrev s_is_item : Stmt := top 15
abbrev N_is_item : List Str := ["thing"]
theorem sc_is_item : FnScope N_is_item ["thing"] (defScope s_is_item) := ⟨rfl, rfl, rfl, by decide +kernel, rfl, by decide +kernel, by decide +kernel⟩
abbrev s_is_row : Stmt := top 16
abbrev N_is_row : List Str := ["low", "high", "thing", "item"]
theorem sc_is_row : FnScope N_is_row ["low", "high", "thing"] (defScope s_is_row) := ⟨rfl, rfl, rfl, by decide +kernel, rfl, by decide +kernel, by decide +kernel⟩
abbrev s_is_content : Stmt := top 17
abbrev N_is_content : List Str := ["thing"]
theorem sc_is_content : FnScope N_is_content ["thing"] (defScope s_is_content) := ⟨rfl, rfl, rfl, by decide +kernel, rfl, by decide +kernel, by decide +kernel⟩
abbrev s_Disk_write : Stmt := inClass (top 23) 2
abbrev N_Disk_write : List Str := ["self", "block", "content"]
theorem sc_Disk_write : FnScope N_Disk_write ["self", "block", "content"] (defScope s_Disk_write) := ⟨rfl, rfl, rfl, by decide +kernel, rfl, by decide +kernel, by decide +kernel⟩
abbrev s_law_reached : Stmt := top 31
abbrev N_law_reached : List Str := ["book", "block", "row"]
theorem sc_law_reached : FnScope N_law_reached ["book", "block"] (defScope s_law_reached) := ⟨rfl, rfl, rfl, by decide +kernel, rfl, by decide +kernel, by decide +kernel⟩
abbrev s_Disk_let_reach : Stmt := inClass (top 23) 14
abbrev N_Disk_let_reach : List Str := ["self", "block"]
theorem sc_Disk_let_reach : FnScope N_Disk_let_reach ["self", "block"] (defScope s_Disk_let_reach) := ⟨rfl, rfl, rfl, by decide +kernel, rfl, by decide +kernel, by decide +kernel⟩
abbrev s_Disk_reach : Stmt := inClass (top 23) 4
abbrev N_Disk_reach : List Str := ["self", "block"]
theorem sc_Disk_reach : FnScope N_Disk_reach ["self", "block"] (defScope s_Disk_reach) := ⟨rfl, rfl, rfl, by decide +kernel, rfl, by decide +kernel, by decide +kernel⟩
abbrev s_law_forced : Stmt := top 32
abbrev N_law_forced : List Str := ["book", "lot", "block"]
theorem sc_law_forced : FnScope N_law_forced ["book", "lot"] (defScope s_law_forced) := ⟨rfl, rfl, rfl, by decide +kernel, rfl, by decide +kernel, by decide +kernel⟩
abbrev s_is_lot_below : Stmt := top 18
abbrev N_is_lot_below : List Str := ["bound", "thing", "least", "number"]
theorem sc_is_lot_below : FnScope N_is_lot_below ["bound", "thing"] (defScope s_is_lot_below) := ⟨rfl, rfl, rfl, by decide +kernel, rfl, by decide +kernel, by decide +kernel⟩
abbrev s_Disk_force : Stmt := inClass (top 23) 5
abbrev N_Disk_force : List Str := ["self", "lot", "block"]
theorem sc_Disk_force : FnScope N_Disk_force ["self", "lot"] (defScope s_Disk_force) := ⟨rfl, rfl, rfl, by decide +kernel, rfl, by decide +kernel, by decide +kernel⟩
abbrev s_Disk_calm : Stmt := inClass (top 23) 6
abbrev N_Disk_calm : List Str := ["self"]
theorem sc_Disk_calm : FnScope N_Disk_calm ["self"] (defScope s_Disk_calm) := ⟨rfl, rfl, rfl, by decide +kernel, rfl, by decide +kernel, by decide +kernel⟩
abbrev s_Disk_power : Stmt := inClass (top 23) 7
abbrev N_Disk_power : List Str := ["self", "many"]
theorem sc_Disk_power : FnScope N_Disk_power ["self", "many"] (defScope s_Disk_power) := ⟨rfl, rfl, rfl, by decide +kernel, rfl, by decide +kernel, by decide +kernel⟩
abbrev s_law_cut : Stmt := top 33
abbrev N_law_cut : List Str := ["book"]
theorem sc_law_cut : FnScope N_law_cut ["book"] (defScope s_law_cut) := ⟨rfl, rfl, rfl, by decide +kernel, rfl, by decide +kernel, by decide +kernel⟩
abbrev s_Disk_cut : Stmt := inClass (top 23) 8
abbrev N_Disk_cut : List Str := ["self"]
theorem sc_Disk_cut : FnScope N_Disk_cut ["self"] (defScope s_Disk_cut) := ⟨rfl, rfl, rfl, by decide +kernel, rfl, by decide +kernel, by decide +kernel⟩
abbrev s_Disk_reached : Stmt := inClass (top 23) 11
abbrev N_Disk_reached : List Str := ["self"]
theorem sc_Disk_reached : FnScope N_Disk_reached ["self"] (defScope s_Disk_reached) := ⟨rfl, rfl, rfl, by decide +kernel, rfl, by decide +kernel, by decide +kernel⟩
abbrev s_Disk_waiting : Stmt := inClass (top 23) 9
abbrev N_Disk_waiting : List Str := ["self", "block"]
theorem sc_Disk_waiting : FnScope N_Disk_waiting ["self"] (defScope s_Disk_waiting) := ⟨rfl, rfl, rfl, by decide +kernel, rfl, by decide +kernel, by decide +kernel⟩
abbrev s_Disk_read : Stmt := inClass (top 23) 3
abbrev N_Disk_read : List Str := ["self", "block"]
theorem sc_Disk_read : FnScope N_Disk_read ["self", "block"] (defScope s_Disk_read) := ⟨rfl, rfl, rfl, by decide +kernel, rfl, by decide +kernel, by decide +kernel⟩
abbrev s_Disk_lying : Stmt := inClass (top 23) 10
abbrev N_Disk_lying : List Str := ["self", "block"]
theorem sc_Disk_lying : FnScope N_Disk_lying ["self", "block"] (defScope s_Disk_lying) := ⟨rfl, rfl, rfl, by decide +kernel, rfl, by decide +kernel, by decide +kernel⟩
abbrev s_law_shows : Stmt := top 34
abbrev N_law_shows : List Str := ["disk", "book", "some", "block", "due", "row"]
theorem sc_law_shows : FnScope N_law_shows ["disk", "book", "some"] (defScope s_law_shows) := ⟨rfl, rfl, rfl, by decide +kernel, rfl, by decide +kernel, by decide +kernel⟩
abbrev s_law_deed : Stmt := top 36
abbrev N_law_deed : List Str := ["hand", "disk", "book", "some", "kind", "block", "content", "due", "told", "lot", "turn"]
theorem sc_law_deed : FnScope N_law_deed ["hand", "disk", "book", "some"] (defScope s_law_deed) := ⟨rfl, rfl, rfl, by decide +kernel, rfl, by decide +kernel, by decide +kernel⟩
abbrev s_Disk_copy : Stmt := inClass (top 23) 12
abbrev N_Disk_copy : List Str := ["self", "other"]
theorem sc_Disk_copy : FnScope N_Disk_copy ["self"] (defScope s_Disk_copy) := ⟨rfl, rfl, rfl, by decide +kernel, rfl, by decide +kernel, by decide +kernel⟩
abbrev s_law_copied : Stmt := top 37
abbrev N_law_copied : List Str := ["hand", "disk", "book", "other"]
theorem sc_law_copied : FnScope N_law_copied ["hand", "disk", "book"] (defScope s_law_copied) := ⟨rfl, rfl, rfl, by decide +kernel, rfl, by decide +kernel, by decide +kernel⟩
abbrev s_law : Stmt := top 38
abbrev N_law : List Str := ["script", "hand", "blocks", "disk", "book", "some", "apart", "turn", "other", "more"]
theorem sc_law : FnScope N_law ["script"] (defScope s_law) := ⟨rfl, rfl, rfl, by decide +kernel, rfl, by decide +kernel, by decide +kernel⟩
/-! the mirror -/
def x_own : Nat → String → Option Bool := fun _ _ => none
noncomputable def m_law_hand : MS := sSeq (sAsg (mComp true (iL (mSl true (mVar 0) (mNoPart) (mPart (mC (.int 63))))) [2] (.one 2) (mYes) (mFn fAbs (mCons (mFn fInt (mCons (mVar 2) (mNil))) (mNil)))) (gName' 1)) (sRet (mLst false (mCons (mVar 1) (mCons (mC (.int 0)) (mCons (mC (.int 0)) (mCons (mOp (wAdd true) (mC (.int 1)) (mFn fLen (mCons (mVar 1) (mNil)))) (mCons (mC (.int 0)) (mNil))))))))
noncomputable def r_law_hand : RunM := runOf 3 m_law_hand
noncomputable def m_law_draw : MS := sSeq (sIf (mAnd (mB (mOp (wEq) (mOp wIx (mVar 0) (mC (.int 2))) (mC (.int 0)))) (mB (mOp (wCmpS (fun i j => decide (i.cps.toList < j.cps.toList)) (fun i j => decide (i < j))) (mOp wIx (mVar 0) (mC (.int 1))) (mFn fLen (mCons (mOp wIx (mVar 0) (mC (.int 0))) (mNil)))))) (sSeq (sAsg (mOp wIx (mOp wIx (mVar 0) (mC (.int 0))) (mOp wIx (mVar 0) (mC (.int 1)))) (gName' 2)) (sSeq (sAsg (mOp (wAdd true) (mOp wIx (mVar 0) (mC (.int 1))) (mC (.int 1))) (gSub' (mVar 0) (mC (.int 1)))) (sSeq (sAsg (mOp (wMod) (mFn fInt (mCons (mOp (wAdd true) (mOp (wAdd true) (mOp (wMul true) (mOp wIx (mVar 0) (mC (.int 3))) (mC (.int 69621))) (mVar 2)) (mC (.int 11))) (mNil))) (mC (.int 2147483629))) (gSub' (mVar 0) (mC (.int 3)))) (sIf (mB (mOp (wCmpS (fun i j => !decide (i.cps.toList < j.cps.toList)) (fun i j => decide (j ≤ i))) (mVar 2) (mOp (wPow) (mC (.int 10)) (mC (.int 18))))) (sAsg (mVar 2) (gSub' (mVar 0) (mC (.int 2)))) (sNx))))) (sNx)) (sSeq (sIf (mB (mOp (wCmpS (fun i j => decide (j.cps.toList < i.cps.toList)) (fun i j => decide (j < i))) (mOp wIx (mVar 0) (mC (.int 2))) (mC (.int 0)))) (sSeq (sAsg (mOp (wMod) (mFn fInt (mCons (mOp wIx (mVar 0) (mC (.int 2))) (mNil))) (mVar 1)) (gName' 3)) (sSeq (sAsg (mOp (wDiv) (mOp wIx (mVar 0) (mC (.int 2))) (mVar 1)) (gSub' (mVar 0) (mC (.int 2)))) (sRet (mVar 3)))) (sNx)) (sSeq (sAsg (mOp (wAdd true) (mOp wIx (mVar 0) (mC (.int 4))) (mC (.int 1))) (gSub' (mVar 0) (mC (.int 4)))) (sSeq (sAsg (mOp (wMod) (mFn fInt (mCons (mOp (wMul true) (mFn fInt (mCons (mOp (wAdd true) (mOp wIx (mVar 0) (mC (.int 3))) (mOp (wMul true) (mC (.int 7919)) (mOp wIx (mVar 0) (mC (.int 4))))) (mNil))) (mC (.int 48271))) (mNil))) (mC (.int 2147483647))) (gName' 4)) (sSeq (sAsg (mOp (wMod) (mFn fInt (mCons (mOp (wMul true) (mVar 4) (mOp (wAdd true) (mOp (wDiv) (mVar 4) (mC (.int 1009))) (mC (.int 69621)))) (mNil))) (mC (.int 2147483647))) (gName' 4)) (sSeq (sAsg (mOp (wMod) (mFn fInt (mCons (mOp (wMul true) (mVar 4) (mOp (wAdd true) (mOp (wDiv) (mVar 4) (mC (.int 2003))) (mC (.int 40692)))) (mNil))) (mC (.int 2147483399))) (gName' 4)) (sRet (mOp (wMod) (mFn fInt (mCons (mOp (wDiv) (mVar 4) (mC (.int 16))) (mNil))) (mVar 1))))))))
noncomputable def r_law_draw : RunM := runOf 5 m_law_draw
noncomputable def m_is_integer : MS := sRet (mBl (mAnd (mB (mFn (fIsi x_own) (mCons (mVar 0) (mCons (mC (.ty "int")) (mNil))))) (mNot (mB (mFn (fIsi x_own) (mCons (mVar 0) (mCons (mC (.ty "bool")) (mNil))))))))
noncomputable def r_is_integer : RunM := runOf 1 m_is_integer
noncomputable def m_is_within : MS := sRet (mBl (mAnd (mB (mCall r_is_integer (mCons (mVar 2) (mNil)))) (mB (mChain (wCmpS (fun i j => !decide (j.cps.toList < i.cps.toList)) (fun i j => decide (i ≤ j))) (wCmpS (fun i j => !decide (j.cps.toList < i.cps.toList)) (fun i j => decide (i ≤ j))) (mVar 0) (mVar 2) (mVar 1)))))
noncomputable def r_is_within : RunM := runOf 3 m_is_within
noncomputable def m_Disk_init : MS := sSeq (sIf (mNot (mTr (mCall r_is_within (mCons (mC (.int 16)) (mCons (mC (.int 600)) (mCons (mVar 1) (mNil))))))) (sStk) (sNx)) (sSeq (sFld' [0] "contents" (mVar 0) (mOp (wMul false) (mLst true (mCons (mTup (mNil)) (mNil))) (mVar 1))) (sSeq (sFld' [0] "cached" (mVar 0) (mDict0)) (sSeq (sFld' [0] "left" (mVar 0) (mC .non)) (sFld' [0] "arrived" (mVar 0) (mC (.int 0))))))
noncomputable def r_Disk_init : RunM := runOf 2 m_Disk_init
noncomputable def m_law_book : MS := sRet (mDisp (mPair (mC (.str "lying")) (mOp (wMul false) (mLst true (mCons (mTup (mNil)) (mNil))) (mVar 0)) (mPair (mC (.str "waits")) (mDict0) (mPair (mC (.str "power")) (mC .non) (mPair (mC (.str "reached")) (mC (.int 0)) (mPair0))))))
noncomputable def r_law_book : RunM := runOf 1 m_law_book
noncomputable def m_law_any : MS := sRet (mOp wIx (mVar 1) (mCall r_law_draw (mCons (mVar 0) (mCons (mFn fLen (mCons (mVar 1) (mNil))) (mNil)))))
noncomputable def r_law_any : RunM := runOf 2 m_law_any
noncomputable def m_law_content : MS := sSeq (sAsg (mLst true (mCons (mC (.int 0)) (mCons (mC (.int 1)) (mCons (mNeg (mC (.int 7))) (mCons (mOp (wPow) (mC (.int 10)) (mC (.int 30))) (mCons (mNeg (mOp (wPow) (mC (.int 10)) (mC (.int 30)))) (mCons (mC (.str "")) (mCons (mC (.str "a")) (mCons (mC (.str "abcdefghijkl")) (mCons (mCall r_law_draw (mCons (mVar 0) (mCons (mC (.int 1000)) (mNil)))) (mNil))))))))))) (gName' 1)) (sSeq (sAsg (mCall r_law_any (mCons (mVar 0) (mCons (mLst true (mCons (mC (.int 0)) (mCons (mC (.int 1)) (mCons (mC (.int 2)) (mCons (mC (.int 3)) (mCons (mC (.int 5)) (mCons (mC (.int 40)) (mNil)))))))) (mNil)))) (gName' 2)) (sRet (mFn fTuple (mCons (mComp true (iR1 (mCons (mVar 2) (mNil))) [3] (.one 3) (mYes) (mCall r_law_any (mCons (mVar 0) (mCons (mVar 1) (mNil))))) (mNil)))))
noncomputable def r_law_content : RunM := runOf 4 m_law_content
noncomputable def m_law_wrote : MS := sAsg (mOp (wAdd true) (mDget2 (mOp wIx (mVar 0) (mC (.str "waits"))) (mVar 1) (mLst true (mNil))) (mLst true (mCons (mVar 2) (mNil)))) (gSub' (mOp wIx (mVar 0) (mC (.str "waits"))) (mVar 1))
noncomputable def r_law_wrote : RunM := runOf 3 m_law_wrote
noncomputable def mL_law_word (F : W) (cl : Sto → Rs W) : MS := sSeq (sAsg (mC (.str "other")) (gName' 1)) (sSeq (sTryM [([(1, true), (2, false), (3, false)], 2, fun n a => sAsg (mIf (mAnd (mTr (mExIs n a [(1, true), (2, true), (3, true)] 2)) (mTr (mExIs n a [(1, true), (2, true), (3, true)] 2))) (mC (.str "stopped")) (mC (.str "other"))) (gName' 1)), ([(1, false), (2, true), (3, false)], 2, fun n a => sAsg (mIf (mAnd (mTr (mExIs n a [(1, true), (2, true), (3, true)] 2)) (mTr (mExIs n a [(1, true), (2, true), (3, true)] 2))) (mC (.str "nothing")) (mC (.str "other"))) (gName' 1))] (sForget 3 (sAsg (mCallP F 0 cl) (gName' 1)))) (sRet (mVar 1)))
noncomputable def m_Disk_blocks : MS := sRet (mFn fLen (mCons (mFld [0] "contents" (mVar 0)) (mNil)))
noncomputable def r_Disk_blocks : RunM := runOf 1 m_Disk_blocks
noncomputable def m_Disk_demand_block : MS := sIf (mNot (mTr (mCall r_is_within (mCons (mC (.int 0)) (mCons (mOp (wSub) (mMeth [(0, r_Disk_blocks)] "blocks" (mVar 0) mNil) (mC (.int 1))) (mCons (mVar 1) (mNil))))))) (sStk) (sNx)
noncomputable def r_Disk_demand_block : RunM := runOf 2 m_Disk_demand_block
noncomputable def m_is_word : MS := sSeq (sIf (mOr (mNot (mTr (mFn (fIsi x_own) (mCons (mVar 0) (mCons (mC (.ty "str")) (mNil)))))) (mB (mOp (wCmpS (fun i j => decide (j.cps.toList < i.cps.toList)) (fun i j => decide (j < i))) (mFn fLen (mCons (mVar 0) (mNil))) (mC (.int 12))))) (sRet (mC (.bl false))) (sNx)) (sRet (mFn fAll (mCons (mComp true (iS (mVar 0)) [1] (.one 1) (mYes) (mChain (wCmpS (fun i j => !decide (j.cps.toList < i.cps.toList)) (fun i j => decide (i ≤ j))) (wCmpS (fun i j => !decide (j.cps.toList < i.cps.toList)) (fun i j => decide (i ≤ j))) (mC (.str "a")) (mVar 1) (mC (.str "z")))) (mNil))))
noncomputable def r_is_word : RunM := runOf 2 m_is_word
noncomputable def m_is_item : MS := sRet (mBl (mOr (mB (mCall r_is_word (mCons (mVar 0) (mNil)))) (mB (mCall r_is_within (mCons (mNeg (mC (.int 1000000000000000000000000000000))) (mCons (mC (.int 1000000000000000000000000000000)) (mCons (mVar 0) (mNil))))))))
noncomputable def r_is_item : RunM := runOf 1 m_is_item
noncomputable def m_is_row : MS := sSeq (sIf (mOr (mNot (mTr (mFn (fIsi x_own) (mCons (mVar 2) (mCons (mC (.ty "tuple")) (mNil)))))) (mNot (mB (mChain (wCmpS (fun i j => !decide (j.cps.toList < i.cps.toList)) (fun i j => decide (i ≤ j))) (wCmpS (fun i j => !decide (j.cps.toList < i.cps.toList)) (fun i j => decide (i ≤ j))) (mVar 0) (mFn fLen (mCons (mVar 2) (mNil))) (mVar 1))))) (sRet (mC (.bl false))) (sNx)) (sRet (mFn fAll (mCons (mComp true (iT (mVar 2)) [3] (.one 3) (mYes) (mCall r_is_item (mCons (mVar 3) (mNil)))) (mNil))))
noncomputable def r_is_row : RunM := runOf 4 m_is_row
noncomputable def m_is_content : MS := sRet (mCall r_is_row (mCons (mC (.int 0)) (mCons (mC (.int 40)) (mCons (mVar 0) (mNil)))))
noncomputable def r_is_content : RunM := runOf 1 m_is_content
noncomputable def m_Disk_write : MS := sSeq (sExpr (mMeth [(0, r_Disk_demand_block)] "demand_block" (mVar 0) (mCons (mVar 1) (mNil)))) (sSeq (sIf (mNot (mTr (mCall r_is_content (mCons (mVar 2) (mNil))))) (sStk) (sNx)) (sExpr (mLm fAppend (mDset2 (mFld [0] "cached" (mVar 0)) (mVar 1) (mLst false (mNil))) (mCons (mVar 2) (mNil)))))
noncomputable def r_Disk_write : RunM := runOf 3 m_Disk_write
noncomputable def m_law_reached : MS := sSeq (sIf (mB (mOp (wEq) (mOp wIx (mVar 0) (mC (.str "power"))) (mC (.int 0)))) (sRet (mC (.bl false))) (sNx)) (sSeq (sIf (mB (mOp (wIsNot) (mOp wIx (mVar 0) (mC (.str "power"))) (mC .non))) (sAsg (mOp (wSub) (mOp wIx (mVar 0) (mC (.str "power"))) (mC (.int 1))) (gSub' (mVar 0) (mC (.str "power")))) (sNx)) (sSeq (sAsg (mDpop (mOp wIx (mVar 0) (mC (.str "waits"))) (mVar 1)) (gName' 2)) (sSeq (sAsg (mOp wIx (mVar 2) (mC (.int 0))) (gSub' (mOp wIx (mVar 0) (mC (.str "lying"))) (mVar 1))) (sSeq (sAsg (mOp (wAdd true) (mOp wIx (mVar 0) (mC (.str "reached"))) (mC (.int 1))) (gSub' (mVar 0) (mC (.str "reached")))) (sSeq (sIf (mB (mOp (wCmpS (fun i j => decide (j.cps.toList < i.cps.toList)) (fun i j => decide (j < i))) (mFn fLen (mCons (mVar 2) (mNil))) (mC (.int 1)))) (sAsg (mSl true (mVar 2) (mPart (mC (.int 1))) (mNoPart)) (gSub' (mOp wIx (mVar 0) (mC (.str "waits"))) (mVar 1))) (sNx)) (sRet (mC (.bl true))))))))
noncomputable def r_law_reached : RunM := runOf 3 m_law_reached
noncomputable def m_Disk_let_reach : MS := sSeq (sIf (mB (mOp (wEq) (mFld [0] "left" (mVar 0)) (mC (.int 0)))) (sRaise 1) (sNx)) (sSeq (sIf (mB (mOp (wIsNot) (mFld [0] "left" (mVar 0)) (mC .non))) (sFaug [0] "left" (fun p q => p - q) (mVar 0) (mC (.int 1))) (sNx)) (sSeq (sAsg (mLm fPopAt (mOp wIx (mFld [0] "cached" (mVar 0)) (mVar 1)) (mCons (mC (.int 0)) (mNil))) (gSub' (mFld [0] "contents" (mVar 0)) (mVar 1))) (sSeq (sIf (mNot (mTr (mOp wIx (mFld [0] "cached" (mVar 0)) (mVar 1)))) (sDel (mFld [0] "cached" (mVar 0)) (mVar 1)) (sNx)) (sFaug [0] "arrived" (fun p q => p + q) (mVar 0) (mC (.int 1))))))
noncomputable def r_Disk_let_reach : RunM := runOf 2 m_Disk_let_reach
noncomputable def m_Disk_reach : MS := sSeq (sExpr (mMeth [(0, r_Disk_demand_block)] "demand_block" (mVar 0) (mCons (mVar 1) (mNil)))) (sSeq (sIf (mB (mDin true (mVar 1) (mFld [0] "cached" (mVar 0)))) (sRaise 2) (sNx)) (sExpr (mMeth [(0, r_Disk_let_reach)] "let_reach" (mVar 0) (mCons (mVar 1) (mNil)))))
noncomputable def r_Disk_reach : RunM := runOf 2 m_Disk_reach
noncomputable def m_law_forced : MS := sSeq (sFor (iA (mVar 1)) (gName' 2) (sWhile 1000000 (mB (mDin false (mVar 2) (mOp wIx (mVar 0) (mC (.str "waits"))))) (sIf (mNot (mTr (mCall r_law_reached (mCons (mVar 0) (mCons (mVar 2) (mNil)))))) (sRet (mC (.bl false))) (sNx)))) (sRet (mC (.bl true)))
noncomputable def r_law_forced : RunM := runOf 3 m_law_forced
noncomputable def m_is_lot_below : MS := sSeq (sIf (mNot (mTr (mFn (fIsi x_own) (mCons (mVar 1) (mCons (mC (.ty "tuple")) (mNil)))))) (sRet (mC (.bl false))) (sNx)) (sSeq (sAsg (mC (.int 0)) (gName' 2)) (sSeq (sFor (iT (mVar 1)) (gName' 3) (sSeq (sIf (mNot (mTr (mCall r_is_within (mCons (mVar 2) (mCons (mOp (wSub) (mVar 0) (mC (.int 1))) (mCons (mVar 3) (mNil))))))) (sRet (mC (.bl false))) (sNx)) (sAsg (mOp (wAdd true) (mVar 3) (mC (.int 1))) (gName' 2)))) (sRet (mC (.bl true)))))
noncomputable def r_is_lot_below : RunM := runOf 4 m_is_lot_below
noncomputable def m_Disk_force : MS := sSeq (sIf (mNot (mTr (mCall r_is_lot_below (mCons (mMeth [(0, r_Disk_blocks)] "blocks" (mVar 0) mNil) (mCons (mVar 1) (mNil)))))) (sStk) (sNx)) (sFor (iT (mVar 1)) (gName' 2) (sWhile 1000000 (mB (mDin false (mVar 2) (mFld [0] "cached" (mVar 0)))) (sExpr (mMeth [(0, r_Disk_let_reach)] "let_reach" (mVar 0) (mCons (mVar 2) (mNil))))))
noncomputable def r_Disk_force : RunM := runOf 3 m_Disk_force
noncomputable def m_Disk_calm : MS := sExpr (mMeth [(0, r_Disk_force)] "force" (mVar 0) (mCons (mFn fTuple (mCons (mFn (fSorted true) (mCons (mFld [0] "cached" (mVar 0)) (mNil))) (mNil))) (mNil)))
noncomputable def r_Disk_calm : RunM := runOf 1 m_Disk_calm
noncomputable def m_Disk_power : MS := sSeq (sIf (mAnd (mB (mOp (wIsNot) (mVar 1) (mC .non))) (mNot (mTr (mCall r_is_within (mCons (mC (.int 0)) (mCons (mC (.int 1000000)) (mCons (mVar 1) (mNil)))))))) (sStk) (sNx)) (sFld' [0] "left" (mVar 0) (mVar 1))
noncomputable def r_Disk_power : RunM := runOf 2 m_Disk_power
noncomputable def m_law_cut : MS := sAsg (mTup (mCons (mDict0) (mCons (mC .non) (mNil)))) (gTup' [gSub' (mVar 0) (mC (.str "waits")), gSub' (mVar 0) (mC (.str "power"))])
noncomputable def r_law_cut : RunM := runOf 1 m_law_cut
noncomputable def m_Disk_cut : MS := sSeq (sFld' [0] "cached" (mVar 0) (mDict0)) (sFld' [0] "left" (mVar 0) (mC .non))
noncomputable def r_Disk_cut : RunM := runOf 1 m_Disk_cut
noncomputable def m_Disk_reached : MS := sRet (mFld [0] "arrived" (mVar 0))
noncomputable def r_Disk_reached : RunM := runOf 1 m_Disk_reached
noncomputable def m_Disk_waiting : MS := sRet (mDcomp (iL (mFn (fSorted true) (mCons (mFld [0] "cached" (mVar 0)) (mNil)))) [1] (.one 1) (mYes) (mVar 1) (mFn fLen (mCons (mOp wIx (mFld [0] "cached" (mVar 0)) (mVar 1)) (mNil))))
noncomputable def r_Disk_waiting : RunM := runOf 2 m_Disk_waiting
noncomputable def m_Disk_read : MS := sSeq (sExpr (mMeth [(0, r_Disk_demand_block)] "demand_block" (mVar 0) (mCons (mVar 1) (mNil)))) (sSeq (sIf (mB (mDin false (mVar 1) (mFld [0] "cached" (mVar 0)))) (sRet (mOp wIx (mOp wIx (mFld [0] "cached" (mVar 0)) (mVar 1)) (mNeg (mC (.int 1))))) (sNx)) (sRet (mOp wIx (mFld [0] "contents" (mVar 0)) (mVar 1))))
noncomputable def r_Disk_read : RunM := runOf 2 m_Disk_read
noncomputable def m_Disk_lying : MS := sSeq (sExpr (mMeth [(0, r_Disk_demand_block)] "demand_block" (mVar 0) (mCons (mVar 1) (mNil)))) (sRet (mOp wIx (mFld [0] "contents" (mVar 0)) (mVar 1)))
noncomputable def r_Disk_lying : RunM := runOf 2 m_Disk_lying
noncomputable def m_law_shows : MS := sSeq (sIf (mOr (mB (mOp (wNe) (mMeth [(0, r_Disk_blocks)] "blocks" (mVar 0) mNil) (mFn fLen (mCons (mOp wIx (mVar 1) (mC (.str "lying"))) (mNil))))) (mB (mOp (wNe) (mMeth [(0, r_Disk_reached)] "reached" (mVar 0) mNil) (mOp wIx (mVar 1) (mC (.str "reached")))))) (sRet (mC (.bl false))) (sNx)) (sSeq (sIf (mB (mOp (wEqD false) (mMeth [(0, r_Disk_waiting)] "waiting" (mVar 0) mNil) (mFn fDict (mCons (mLock (mOp wIx (mVar 1) (mC (.str "waits"))) (mComp true (iKv (mOp wIx (mVar 1) (mC (.str "waits")))) [3, 5] (.tup [3, 5]) (mYes) (mTup (mCons (mVar 3) (mCons (mFn fLen (mCons (mVar 5) (mNil))) (mNil)))))) (mNil))))) (sRet (mC (.bl false))) (sNx)) (sSeq (sFor (iL (mVar 2)) (gName' 3) (sSeq (sAsg (mIf (mB (mDin false (mVar 3) (mOp wIx (mVar 1) (mC (.str "waits"))))) (mOp wIx (mOp wIx (mOp wIx (mVar 1) (mC (.str "waits"))) (mVar 3)) (mNeg (mC (.int 1)))) (mOp wIx (mOp wIx (mVar 1) (mC (.str "lying"))) (mVar 3))) (gName' 4)) (sIf (mOr (mB (mOp (wNe) (mMeth [(0, r_Disk_read)] "read" (mVar 0) (mCons (mVar 3) (mNil))) (mVar 4))) (mB (mOp (wNe) (mMeth [(0, r_Disk_lying)] "lying" (mVar 0) (mCons (mVar 3) (mNil))) (mOp wIx (mOp wIx (mVar 1) (mC (.str "lying"))) (mVar 3))))) (sRet (mC (.bl false))) (sNx)))) (sRet (mC (.bl true)))))
noncomputable def r_law_shows : RunM := runOf 6 m_law_shows
noncomputable def m_law_deed : MS := sSeq (sAsg (mTup (mCons (mCall r_law_draw (mCons (mVar 0) (mCons (mC (.int 16)) (mNil)))) (mCons (mCall r_law_any (mCons (mVar 0) (mCons (mVar 3) (mNil)))) (mNil)))) (gTup' [gName' 4, gName' 5])) (sSeq (sIf (mB (mOp (wCmpS (fun i j => decide (i.cps.toList < j.cps.toList)) (fun i j => decide (i < j))) (mVar 4) (mC (.int 6)))) (sSeq (sAsg (mCall r_law_content (mCons (mVar 0) (mNil))) (gName' 6)) (sSeq (sExpr (mCall r_law_wrote (mCons (mVar 2) (mCons (mVar 5) (mCons (mVar 6) (mNil)))))) (sRet (mOp (wIs) (mLam 0 "_law_deed.<locals>.<lambda>" (fun F cl => mL_law_word F cl) 2 (mMeth [(0, r_Disk_write)] "write" (mVar 1) (mCons (mVar 5) (mCons (mVar 6) (mNil))))) (mC .non))))) (sNx)) (sSeq (sIf (mB (mOp (wCmpS (fun i j => decide (i.cps.toList < j.cps.toList)) (fun i j => decide (i < j))) (mVar 4) (mC (.int 9)))) (sSeq (sAsg (mC (.str "nothing")) (gName' 7)) (sSeq (sIf (mB (mDin false (mVar 5) (mOp wIx (mVar 2) (mC (.str "waits"))))) (sAsg (mIf (mTr (mCall r_law_reached (mCons (mVar 2) (mCons (mVar 5) (mNil))))) (mC .non) (mC (.str "stopped"))) (gName' 7)) (sNx)) (sAsg (mLam 0 "_law_deed.<locals>.<lambda>" (fun F cl => mL_law_word F cl) 2 (mMeth [(0, r_Disk_reach)] "reach" (mVar 1) (mCons (mVar 5) (mNil)))) (gName' 8)))) (sIf (mB (mOp (wCmpS (fun i j => decide (i.cps.toList < j.cps.toList)) (fun i j => decide (i < j))) (mVar 4) (mC (.int 11)))) (sSeq (sAsg (mFn fTuple (mCons (mFn (fSortSet true) (mCons (mComp true (iR1 (mCons (mCall r_law_draw (mCons (mVar 0) (mCons (mC (.int 4)) (mNil)))) (mNil))) [10] (.one 10) (mYes) (mCall r_law_any (mCons (mVar 0) (mCons (mVar 3) (mNil))))) (mNil))) (mNil))) (gName' 9)) (sSeq (sAsg (mIf (mTr (mCall r_law_forced (mCons (mVar 2) (mCons (mVar 9) (mNil))))) (mC .non) (mC (.str "stopped"))) (gName' 7)) (sAsg (mLam 0 "_law_deed.<locals>.<lambda>" (fun F cl => mL_law_word F cl) 2 (mMeth [(0, r_Disk_force)] "force" (mVar 1) (mCons (mVar 9) (mNil)))) (gName' 8)))) (sIf (mB (mOp (wEq) (mVar 4) (mC (.int 11)))) (sSeq (sAsg (mIf (mTr (mCall r_law_forced (mCons (mVar 2) (mCons (mFn (fSorted true) (mCons (mOp wIx (mVar 2) (mC (.str "waits"))) (mNil))) (mNil))))) (mC .non) (mC (.str "stopped"))) (gName' 7)) (sAsg (mLam 0 "_law_deed.<locals>.<lambda>" (fun F cl => mL_law_word F cl) 2 (mMeth [(0, r_Disk_calm)] "calm" (mVar 1) mNil)) (gName' 8))) (sIf (mB (mOp (wCmpS (fun i j => decide (i.cps.toList < j.cps.toList)) (fun i j => decide (i < j))) (mVar 4) (mC (.int 14)))) (sSeq (sAsg (mCall r_law_any (mCons (mVar 0) (mCons (mLst true (mCons (mC .non) (mCons (mC (.int 0)) (mCons (mC (.int 1)) (mCons (mC (.int 2)) (mCons (mC (.int 3)) (mCons (mC (.int 7)) (mCons (mOp (wPow) (mC (.int 10)) (mC (.int 6))) (mNil))))))))) (mNil)))) (gSub' (mVar 2) (mC (.str "power")))) (sPar 7 8 (mC .non) (mLam 0 "_law_deed.<locals>.<lambda>" (fun F cl => mL_law_word F cl) 2 (mMeth [(0, r_Disk_power)] "power" (mVar 1) (mCons (mOp wIx (mVar 2) (mC (.str "power"))) (mNil)))))) (sSeq (sExpr (mCall r_law_cut (mCons (mVar 2) (mNil)))) (sPar 7 8 (mC .non) (mLam 0 "_law_deed.<locals>.<lambda>" (fun F cl => mL_law_word F cl) 2 (mMeth [(0, r_Disk_cut)] "cut" (mVar 1) mNil)))))))) (sSeq (sIf (mAnd (mB (mOp (wEq) (mVar 8) (mC (.str "stopped")))) (mB (mOp (wEq) (mVar 7) (mC (.str "stopped"))))) (sSeq (sIf (mNot (mTr (mCall r_law_shows (mCons (mVar 1) (mCons (mVar 2) (mCons (mVar 3) (mNil))))))) (sRet (mC (.bl false))) (sNx)) (sSeq (sExpr (mCall r_law_cut (mCons (mVar 2) (mNil)))) (sRet (mOp (wIs) (mLam 0 "_law_deed.<locals>.<lambda>" (fun F cl => mL_law_word F cl) 2 (mMeth [(0, r_Disk_cut)] "cut" (mVar 1) mNil)) (mC .non))))) (sNx)) (sRet (mOp (wEq) (mVar 8) (mVar 7))))))
noncomputable def r_law_deed : RunM := runOf 11 m_law_deed
noncomputable def m_Disk_copy : MS := sSeq (sAsg (mMake 0 r_Disk_init (mCons (mMeth [(0, r_Disk_blocks)] "blocks" (mVar 0) mNil) (mNil))) (gName' 1)) (sSeq (sFld' [0] "contents" (mVar 1) (mFn (fList false) (mCons (mFld [0] "contents" (mVar 0)) (mNil)))) (sRet (mVar 1)))
noncomputable def r_Disk_copy : RunM := runOf 2 m_Disk_copy
noncomputable def m_law_copied : MS := sSeq (sAsg (mCall r_law_book (mCons (mFn fLen (mCons (mOp wIx (mVar 2) (mC (.str "lying"))) (mNil))) (mNil))) (gName' 3)) (sSeq (sAsg (mFn (fList false) (mCons (mOp wIx (mVar 2) (mC (.str "lying"))) (mNil))) (gSub' (mVar 3) (mC (.str "lying")))) (sRet (mTup (mCons (mMeth [(0, r_Disk_copy)] "copy" (mVar 1) mNil) (mCons (mVar 3) (mNil))))))
noncomputable def r_law_copied : RunM := runOf 4 m_law_copied
noncomputable def m_law : MS := sSeq (sAsg (mCall r_law_hand (mCons (mVar 0) (mNil))) (gName' 1)) (sSeq (sAsg (mIf (mB (mOp (wEq) (mCall r_law_draw (mCons (mVar 1) (mCons (mC (.int 20)) (mNil)))) (mC (.int 0)))) (mC (.int 600)) (mOp (wAdd true) (mC (.int 16)) (mCall r_law_draw (mCons (mVar 1) (mCons (mC (.int 25)) (mNil)))))) (gName' 2)) (sSeq (sPar 3 4 (mMake 0 r_Disk_init (mCons (mVar 2) (mNil))) (mCall r_law_book (mCons (mVar 2) (mNil)))) (sSeq (sAsg (mFn (fSortSet true) (mCons (mOp (wAdd true) (mLst true (mCons (mC (.int 0)) (mCons (mOp (wSub) (mVar 2) (mC (.int 1))) (mNil)))) (mComp true (iR1 (mCons (mC (.int 5)) (mNil))) [7] (.one 7) (mYes) (mCall r_law_draw (mCons (mVar 1) (mCons (mVar 2) (mNil)))))) (mNil))) (gName' 5)) (sSeq (sAsg (mLst false (mNil)) (gName' 6)) (sSeq (sFor (iR1 (mCons (mOp (wAdd true) (mC (.int 20)) (mCall r_law_draw (mCons (mVar 1) (mCons (mC (.int 21)) (mNil))))) (mNil))) (gName' 7) (sSeq (sIf (mOr (mNot (mTr (mCall r_law_deed (mCons (mVar 1) (mCons (mVar 3) (mCons (mVar 4) (mCons (mVar 5) (mNil)))))))) (mNot (mTr (mCall r_law_shows (mCons (mVar 3) (mCons (mVar 4) (mCons (mVar 5) (mNil)))))))) (sRet (mC (.bl false))) (sNx)) (sIf (mB (mOp (wEq) (mCall r_law_draw (mCons (mVar 1) (mCons (mC (.int 8)) (mNil)))) (mC (.int 0)))) (sSeq (sExpr (mLm fAppend (mVar 6) (mCons (mCall r_law_copied (mCons (mVar 1) (mCons (mVar 3) (mCons (mVar 4) (mNil))))) (mNil)))) (sIf (mB (mOp (wEq) (mCall r_law_draw (mCons (mVar 1) (mCons (mC (.int 2)) (mNil)))) (mC (.int 0)))) (sAsg (mTup (mCons (mOp wIx (mVar 6) (mNeg (mC (.int 1)))) (mCons (mTup (mCons (mVar 3) (mCons (mVar 4) (mNil)))) (mNil)))) (gTup' [gTup' [gName' 3, gName' 4], gSub' (mVar 6) (mNeg (mC (.int 1)))])) (sNx))) (sNx)))) (sSeq (sIf (mNot (mTr (mFn fAll (mCons (mComp true (iL (mVar 6)) [8, 9] (.tup [8, 9]) (mYes) (mCall r_law_shows (mCons (mVar 8) (mCons (mVar 9) (mCons (mLrg true (mVar 2)) (mNil)))))) (mNil))))) (sRet (mC (.bl false))) (sNx)) (sRet (mCall r_law_shows (mCons (mVar 3) (mCons (mVar 4) (mCons (mLrg true (mVar 2)) (mNil))))))))))))
noncomputable def r_law : RunM := runOf 10 m_law
/-! what stands where -/
structure Tx (K : PySem.W.Frag) (mg : Str → Option Value) where
  C_Disk : Addr
  C_Stopped : Addr
  C_NothingWaits : Addr
  C_StoreError : Addr
  a_law_hand : Addr
  d_law_hand : FuncData
  F_law_hand : Fun K "_law_hand" "_law_hand" s_law_hand a_law_hand d_law_hand
  b_law_hand : Binds K d_law_hand ["script"] []
  g_law_hand : mg "_law_hand" = some (.ref a_law_hand)
  a_law_draw : Addr
  d_law_draw : FuncData
  F_law_draw : Fun K "_law_draw" "_law_draw" s_law_draw a_law_draw d_law_draw
  b_law_draw : Binds K d_law_draw ["hand", "many"] []
  g_law_draw : mg "_law_draw" = some (.ref a_law_draw)
  a_is_integer : Addr
  d_is_integer : FuncData
  F_is_integer : Fun K "is_integer" "is_integer" s_is_integer a_is_integer d_is_integer
  b_is_integer : Binds K d_is_integer ["thing"] []
  g_is_integer : mg "is_integer" = some (.ref a_is_integer)
  a_is_within : Addr
  d_is_within : FuncData
  F_is_within : Fun K "is_within" "is_within" s_is_within a_is_within d_is_within
  b_is_within : Binds K d_is_within ["low", "high", "thing"] []
  g_is_within : mg "is_within" = some (.ref a_is_within)
  a_Disk_init : Addr
  d_Disk_init : FuncData
  F_Disk_init : Fun K "__init__" "Disk.__init__" s_Disk_init a_Disk_init d_Disk_init
  b_Disk_init : Binds K d_Disk_init ["self", "blocks"] []
  a_law_book : Addr
  d_law_book : FuncData
  F_law_book : Fun K "_law_book" "_law_book" s_law_book a_law_book d_law_book
  b_law_book : Binds K d_law_book ["blocks"] []
  g_law_book : mg "_law_book" = some (.ref a_law_book)
  a_law_any : Addr
  d_law_any : FuncData
  F_law_any : Fun K "_law_any" "_law_any" s_law_any a_law_any d_law_any
  b_law_any : Binds K d_law_any ["hand", "some"] []
  g_law_any : mg "_law_any" = some (.ref a_law_any)
  a_law_content : Addr
  d_law_content : FuncData
  F_law_content : Fun K "_law_content" "_law_content" s_law_content a_law_content d_law_content
  b_law_content : Binds K d_law_content ["hand"] []
  g_law_content : mg "_law_content" = some (.ref a_law_content)
  a_law_wrote : Addr
  d_law_wrote : FuncData
  F_law_wrote : Fun K "_law_wrote" "_law_wrote" s_law_wrote a_law_wrote d_law_wrote
  b_law_wrote : Binds K d_law_wrote ["book", "block", "content"] []
  g_law_wrote : mg "_law_wrote" = some (.ref a_law_wrote)
  a_law_word : Addr
  d_law_word : FuncData
  F_law_word : Fun K "_law_word" "_law_word" s_law_word a_law_word d_law_word
  b_law_word : Binds K d_law_word ["call"] []
  g_law_word : mg "_law_word" = some (.ref a_law_word)
  a_Disk_blocks : Addr
  d_Disk_blocks : FuncData
  F_Disk_blocks : Fun K "blocks" "Disk.blocks" s_Disk_blocks a_Disk_blocks d_Disk_blocks
  b_Disk_blocks : Binds K d_Disk_blocks ["self"] []
  a_Disk_demand_block : Addr
  d_Disk_demand_block : FuncData
  F_Disk_demand_block : Fun K "demand_block" "Disk.demand_block" s_Disk_demand_block a_Disk_demand_block d_Disk_demand_block
  b_Disk_demand_block : Binds K d_Disk_demand_block ["self", "block"] []
  a_is_word : Addr
  d_is_word : FuncData
  F_is_word : Fun K "is_word" "is_word" s_is_word a_is_word d_is_word
  b_is_word : Binds K d_is_word ["thing"] []
  g_is_word : mg "is_word" = some (.ref a_is_word)
  a_is_item : Addr
  d_is_item : FuncData
  F_is_item : Fun K "is_item" "is_item" s_is_item a_is_item d_is_item
  b_is_item : Binds K d_is_item ["thing"] []
  g_is_item : mg "is_item" = some (.ref a_is_item)
  a_is_row : Addr
  d_is_row : FuncData
  F_is_row : Fun K "is_row" "is_row" s_is_row a_is_row d_is_row
  b_is_row : Binds K d_is_row ["low", "high", "thing"] []
  g_is_row : mg "is_row" = some (.ref a_is_row)
  a_is_content : Addr
  d_is_content : FuncData
  F_is_content : Fun K "is_content" "is_content" s_is_content a_is_content d_is_content
  b_is_content : Binds K d_is_content ["thing"] []
  g_is_content : mg "is_content" = some (.ref a_is_content)
  a_Disk_write : Addr
  d_Disk_write : FuncData
  F_Disk_write : Fun K "write" "Disk.write" s_Disk_write a_Disk_write d_Disk_write
  b_Disk_write : Binds K d_Disk_write ["self", "block", "content"] []
  a_law_reached : Addr
  d_law_reached : FuncData
  F_law_reached : Fun K "_law_reached" "_law_reached" s_law_reached a_law_reached d_law_reached
  b_law_reached : Binds K d_law_reached ["book", "block"] []
  g_law_reached : mg "_law_reached" = some (.ref a_law_reached)
  a_Disk_let_reach : Addr
  d_Disk_let_reach : FuncData
  F_Disk_let_reach : Fun K "let_reach" "Disk.let_reach" s_Disk_let_reach a_Disk_let_reach d_Disk_let_reach
  b_Disk_let_reach : Binds K d_Disk_let_reach ["self", "block"] []
  a_Disk_reach : Addr
  d_Disk_reach : FuncData
  F_Disk_reach : Fun K "reach" "Disk.reach" s_Disk_reach a_Disk_reach d_Disk_reach
  b_Disk_reach : Binds K d_Disk_reach ["self", "block"] []
  a_law_forced : Addr
  d_law_forced : FuncData
  F_law_forced : Fun K "_law_forced" "_law_forced" s_law_forced a_law_forced d_law_forced
  b_law_forced : Binds K d_law_forced ["book", "lot"] []
  g_law_forced : mg "_law_forced" = some (.ref a_law_forced)
  a_is_lot_below : Addr
  d_is_lot_below : FuncData
  F_is_lot_below : Fun K "is_lot_below" "is_lot_below" s_is_lot_below a_is_lot_below d_is_lot_below
  b_is_lot_below : Binds K d_is_lot_below ["bound", "thing"] []
  g_is_lot_below : mg "is_lot_below" = some (.ref a_is_lot_below)
  a_Disk_force : Addr
  d_Disk_force : FuncData
  F_Disk_force : Fun K "force" "Disk.force" s_Disk_force a_Disk_force d_Disk_force
  b_Disk_force : Binds K d_Disk_force ["self", "lot"] []
  a_Disk_calm : Addr
  d_Disk_calm : FuncData
  F_Disk_calm : Fun K "calm" "Disk.calm" s_Disk_calm a_Disk_calm d_Disk_calm
  b_Disk_calm : Binds K d_Disk_calm ["self"] []
  a_Disk_power : Addr
  d_Disk_power : FuncData
  F_Disk_power : Fun K "power" "Disk.power" s_Disk_power a_Disk_power d_Disk_power
  b_Disk_power : Binds K d_Disk_power ["self", "many"] []
  a_law_cut : Addr
  d_law_cut : FuncData
  F_law_cut : Fun K "_law_cut" "_law_cut" s_law_cut a_law_cut d_law_cut
  b_law_cut : Binds K d_law_cut ["book"] []
  g_law_cut : mg "_law_cut" = some (.ref a_law_cut)
  a_Disk_cut : Addr
  d_Disk_cut : FuncData
  F_Disk_cut : Fun K "cut" "Disk.cut" s_Disk_cut a_Disk_cut d_Disk_cut
  b_Disk_cut : Binds K d_Disk_cut ["self"] []
  a_Disk_reached : Addr
  d_Disk_reached : FuncData
  F_Disk_reached : Fun K "reached" "Disk.reached" s_Disk_reached a_Disk_reached d_Disk_reached
  b_Disk_reached : Binds K d_Disk_reached ["self"] []
  a_Disk_waiting : Addr
  d_Disk_waiting : FuncData
  F_Disk_waiting : Fun K "waiting" "Disk.waiting" s_Disk_waiting a_Disk_waiting d_Disk_waiting
  b_Disk_waiting : Binds K d_Disk_waiting ["self"] []
  a_Disk_read : Addr
  d_Disk_read : FuncData
  F_Disk_read : Fun K "read" "Disk.read" s_Disk_read a_Disk_read d_Disk_read
  b_Disk_read : Binds K d_Disk_read ["self", "block"] []
  a_Disk_lying : Addr
  d_Disk_lying : FuncData
  F_Disk_lying : Fun K "lying" "Disk.lying" s_Disk_lying a_Disk_lying d_Disk_lying
  b_Disk_lying : Binds K d_Disk_lying ["self", "block"] []
  a_law_shows : Addr
  d_law_shows : FuncData
  F_law_shows : Fun K "_law_shows" "_law_shows" s_law_shows a_law_shows d_law_shows
  b_law_shows : Binds K d_law_shows ["disk", "book", "some"] []
  g_law_shows : mg "_law_shows" = some (.ref a_law_shows)
  a_law_deed : Addr
  d_law_deed : FuncData
  F_law_deed : Fun K "_law_deed" "_law_deed" s_law_deed a_law_deed d_law_deed
  b_law_deed : Binds K d_law_deed ["hand", "disk", "book", "some"] []
  g_law_deed : mg "_law_deed" = some (.ref a_law_deed)
  c_law_deed : Addr
  P_law_deed : Addr
  L_law_deed : FunL K "_law_deed" "_law_deed" s_law_deed a_law_deed d_law_deed c_law_deed
  a_Disk_copy : Addr
  d_Disk_copy : FuncData
  F_Disk_copy : Fun K "copy" "Disk.copy" s_Disk_copy a_Disk_copy d_Disk_copy
  b_Disk_copy : Binds K d_Disk_copy ["self"] []
  a_law_copied : Addr
  d_law_copied : FuncData
  F_law_copied : Fun K "_law_copied" "_law_copied" s_law_copied a_law_copied d_law_copied
  b_law_copied : Binds K d_law_copied ["hand", "disk", "book"] []
  g_law_copied : mg "_law_copied" = some (.ref a_law_copied)
  a_law : Addr
  d_law : FuncData
  F_law : Fun K "law" "law" s_law a_law d_law
  b_law : Binds K d_law ["script"] []
  g_law : mg "law" = some (.ref a_law)
  bl : ∀ (s : Shared) (u : Value), BindsTo s d_law ⟨[u], []⟩ [("script", u)]
  cl_Disk : Cls K C_Disk
  e_Stopped : ExcF K mg C_Stopped "Stopped"
  xm_Stopped_NothingWaits : PySem.W.exmOne K (.ref C_Stopped) (.ref C_NothingWaits) = some false
  xm_Stopped_Stopped : PySem.W.exmOne K (.ref C_Stopped) (.ref C_Stopped) = some true
  ec_Stopped : ExcC K C_Stopped
  kb_Stopped_ValueError : PySem.W.kitOne K (.ref C_Stopped) (.type "ValueError") = some true
  kt_Stopped_StoreError : PySem.W.kitOne K (.ref C_Stopped) (.ref C_StoreError) = some true
  e_NothingWaits : ExcF K mg C_NothingWaits "NothingWaits"
  xm_NothingWaits_NothingWaits : PySem.W.exmOne K (.ref C_NothingWaits) (.ref C_NothingWaits) = some true
  xm_NothingWaits_Stopped : PySem.W.exmOne K (.ref C_NothingWaits) (.ref C_Stopped) = some false
  ec_NothingWaits : ExcC K C_NothingWaits
  kb_NothingWaits_ValueError : PySem.W.kitOne K (.ref C_NothingWaits) (.type "ValueError") = some true
  kt_NothingWaits_StoreError : PySem.W.kitOne K (.ref C_NothingWaits) (.ref C_StoreError) = some true
  e_StoreError : ExcF K mg C_StoreError "StoreError"
  xm_StoreError_NothingWaits : PySem.W.exmOne K (.ref C_StoreError) (.ref C_NothingWaits) = some false
  xm_StoreError_Stopped : PySem.W.exmOne K (.ref C_StoreError) (.ref C_Stopped) = some false
  ec_StoreError : ExcC K C_StoreError
  kb_StoreError_ValueError : PySem.W.kitOne K (.ref C_StoreError) (.type "ValueError") = some true
  kt_StoreError_StoreError : PySem.W.kitOne K (.ref C_StoreError) (.ref C_StoreError) = some true
  M_Disk : Mk K C_Disk a_Disk_init
  gC_Disk : mg "Disk" = some (.ref C_Disk)
  me_Disk_blocks : Meth K C_Disk "blocks" a_Disk_blocks
  me_Disk_demand_block : Meth K C_Disk "demand_block" a_Disk_demand_block
  me_Disk_write : Meth K C_Disk "write" a_Disk_write
  me_Disk_let_reach : Meth K C_Disk "let_reach" a_Disk_let_reach
  me_Disk_reach : Meth K C_Disk "reach" a_Disk_reach
  me_Disk_force : Meth K C_Disk "force" a_Disk_force
  me_Disk_calm : Meth K C_Disk "calm" a_Disk_calm
  me_Disk_power : Meth K C_Disk "power" a_Disk_power
  me_Disk_cut : Meth K C_Disk "cut" a_Disk_cut
  me_Disk_reached : Meth K C_Disk "reached" a_Disk_reached
  me_Disk_waiting : Meth K C_Disk "waiting" a_Disk_waiting
  me_Disk_read : Meth K C_Disk "read" a_Disk_read
  me_Disk_lying : Meth K C_Disk "lying" a_Disk_lying
  me_Disk_copy : Meth K C_Disk "copy" a_Disk_copy
  nf_arrived_Disk : NoAttr K C_Disk "arrived"
  nf_cached_Disk : NoAttr K C_Disk "cached"
  nf_contents_Disk : NoAttr K C_Disk "contents"
  nf_left_Disk : NoAttr K C_Disk "left"
  t_FEWEST_BLOCKS : Tok
  c_FEWEST_BLOCKS : mg "FEWEST_BLOCKS" = some (.int 16 t_FEWEST_BLOCKS)
  t_GREATEST_ITEM : Tok
  c_GREATEST_ITEM : mg "GREATEST_ITEM" = some (.int 1000000000000000000000000000000 t_GREATEST_ITEM)
  t_LONGEST_CONTENT : Tok
  c_LONGEST_CONTENT : mg "LONGEST_CONTENT" = some (.int 40 t_LONGEST_CONTENT)
  t_LONGEST_WORD : Tok
  c_LONGEST_WORD : mg "LONGEST_WORD" = some (.int 12 t_LONGEST_WORD)
  t_MOST_BLOCKS : Tok
  c_MOST_BLOCKS : mg "MOST_BLOCKS" = some (.int 600 t_MOST_BLOCKS)
  t_MOST_POWER : Tok
  c_MOST_POWER : mg "MOST_POWER" = some (.int 1000000 t_MOST_POWER)
  z_ValueError : mg "ValueError" = none
  z_abs : mg "abs" = none
  z_all : mg "all" = none
  z_bool : mg "bool" = none
  z_dict : mg "dict" = none
  z_int : mg "int" = none
  z_isinstance : mg "isinstance" = none
  z_len : mg "len" = none
  z_list : mg "list" = none
  z_range : mg "range" = none
  z_set : mg "set" = none
  z_sorted : mg "sorted" = none
  z_str : mg "str" = none
  z_tuple : mg "tuple" = none
section
variable {P : Program} {w : World} {K : PySem.W.Frag} {mg : Str → Option Value} {base : Heap}
def Tx.T (x : Tx K mg) : Nat → Addr := fun c => if c = 1000 then x.P_law_deed else if c = 0 then x.C_Disk else if c = 1 then x.C_Stopped else if c = 2 then x.C_NothingWaits else if c = 3 then x.C_StoreError else 0
/-- where the tables of code objects stand -/
def Tx.cs (x : Tx K mg) : List (Addr × Addr) := [(x.c_law_deed, x.P_law_deed)]
def st0 : Sto := [.tb 0 "_law_deed.<locals>.<lambda>"]
abbrev Tx.TB (x : Tx K mg) (base : Heap) : Prop := ∀ p ∈ x.cs, LamX.TabB base mg p.1 p.2
theorem Tx.tab_law_deed (x : Tx K mg) {base : Heap} (tb : x.TB base) : LamX.TabB base mg x.c_law_deed x.P_law_deed := tb (x.c_law_deed, x.P_law_deed) (by simp [Tx.cs])
theorem Tx.tb_NothingWaits (x : Tx K mg) : ∀ p ∈ ([(1, false), (2, true), (3, false)] : List (Nat × Bool)), PySem.W.exmOne K (.ref (x.T p.1)) (.ref x.C_NothingWaits) = some p.2 := fun p hp => by
  simp only [List.mem_cons, List.not_mem_nil, or_false] at hp
  rcases hp with rfl | rfl | rfl
  · exact x.xm_Stopped_NothingWaits
  · exact x.xm_NothingWaits_NothingWaits
  · exact x.xm_StoreError_NothingWaits
theorem Tx.tb_Stopped (x : Tx K mg) : ∀ p ∈ ([(1, true), (2, false), (3, false)] : List (Nat × Bool)), PySem.W.exmOne K (.ref (x.T p.1)) (.ref x.C_Stopped) = some p.2 := fun p hp => by
  simp only [List.mem_cons, List.not_mem_nil, or_false] at hp
  rcases hp with rfl | rfl | rfl
  · exact x.xm_Stopped_Stopped
  · exact x.xm_NothingWaits_Stopped
  · exact x.xm_StoreError_Stopped
theorem Tx.kt_StoreError (x : Tx K mg) : ∀ p ∈ ([(1, true), (2, true), (3, true)] : List (Nat × Bool)), PySem.W.kitOne K (.ref (x.T p.1)) (.ref x.C_StoreError) = some p.2 := fun p hp => by
  simp only [List.mem_cons, List.not_mem_nil, or_false] at hp
  rcases hp with rfl | rfl | rfl
  · exact x.kt_Stopped_StoreError
  · exact x.kt_NothingWaits_StoreError
  · exact x.kt_StoreError_StoreError
theorem Tx.kb_ValueError (x : Tx K mg) : ∀ p ∈ ([(1, true), (2, true), (3, true)] : List (Nat × Bool)), PySem.W.kitOne K (.ref (x.T p.1)) (.type "ValueError") = some p.2 := fun p hp => by
  simp only [List.mem_cons, List.not_mem_nil, or_false] at hp
  rcases hp with rfl | rfl | rfl
  · exact x.kb_Stopped_ValueError
  · exact x.kb_NothingWaits_ValueError
  · exact x.kb_StoreError_ValueError
theorem Tx.ec_n (x : Tx K mg) : ∀ n ∈ ([1, 2, 3] : List Nat), ExcC K (x.T n) := fun n hn => by
  simp only [List.mem_cons, List.not_mem_nil, or_false] at hn
  rcases hn with rfl | rfl | rfl
  · exact x.ec_Stopped
  · exact x.ec_NothingWaits
  · exact x.ec_StoreError
theorem Tx.ec_all (x : Tx K mg) {tb : List (Nat × Bool)} (h : ∀ q ∈ tb, q.1 ∈ ([1, 2, 3] : List Nat) := by decide) : ∀ q ∈ tb, ExcC K (x.T q.1) := fun q hq => x.ec_n q.1 (h q hq)
theorem Tx.own_ok (x : Tx K mg) : ∀ c n b, x_own c n = some b → IsiOwn K (x.T c) ∧ PySem.W.kitOne K (.ref (x.T c)) (.type n) = some b := fun c n b h => by simp [x_own] at h
theorem Tx.f_arrived (x : Tx K mg) : ∀ c ∈ ([0] : List Nat), Cls K (x.T c) ∧ NoAttr K (x.T c) "arrived" := fun c hc => by
  simp only [List.mem_cons, List.not_mem_nil, or_false] at hc
  rcases hc with rfl
  exact ⟨x.cl_Disk, x.nf_arrived_Disk⟩
theorem Tx.f_cached (x : Tx K mg) : ∀ c ∈ ([0] : List Nat), Cls K (x.T c) ∧ NoAttr K (x.T c) "cached" := fun c hc => by
  simp only [List.mem_cons, List.not_mem_nil, or_false] at hc
  rcases hc with rfl
  exact ⟨x.cl_Disk, x.nf_cached_Disk⟩
theorem Tx.f_contents (x : Tx K mg) : ∀ c ∈ ([0] : List Nat), Cls K (x.T c) ∧ NoAttr K (x.T c) "contents" := fun c hc => by
  simp only [List.mem_cons, List.not_mem_nil, or_false] at hc
  rcases hc with rfl
  exact ⟨x.cl_Disk, x.nf_contents_Disk⟩
theorem Tx.f_left (x : Tx K mg) : ∀ c ∈ ([0] : List Nat), Cls K (x.T c) ∧ NoAttr K (x.T c) "left" := fun c hc => by
  simp only [List.mem_cons, List.not_mem_nil, or_false] at hc
  rcases hc with rfl
  exact ⟨x.cl_Disk, x.nf_left_Disk⟩
theorem fn_law_hand (x : Tx K mg) (tb : x.TB base) : FnM P w K mg base x.T 1 x.a_law_hand x.d_law_hand ["script"] r_law_hand := fn_ok x.F_law_hand sc_law_hand fun cdv A outer s H E hr => sss_cons (ss_comp (fz := true) (i := 1) (own := [("cell", 2)]) (t := (.one 2)) rfl sc_law_hand.nd (by rfl) (by rfl) (sw_true rfl rfl rfl (by decide +kernel)) (si_list (se_sl (fz := true) (se_var (by rfl) (by first | exact Or.inl rfl | exact Or.inr (Or.inl rfl) | exact Or.inr (Or.inr rfl))) (sp_none) (sp_some (se_int)))) (blkOk_by (own := [("cell", 2)]) (N := N_law_hand) (sc := (defScope s_law_hand)) (by decide +kernel)) (by decide) (fun _ _ _ _ _ => pg_name (i := 2) sc_law_hand.nd (by rfl) (Or.inl (by rfl))) (.inl ⟨rfl, rfl⟩) (fun _ _ _ _ _ => se_blt call_abs okc_abs (by rfl) x.z_abs (by decide +kernel) (SAn.run (san_cons (se_bty call_int1 okc_int (by rfl) x.z_int (by decide +kernel) (SAn.run (san_cons (se_var (by rfl) (by first | exact Or.inl rfl | exact Or.inr (Or.inl rfl) | exact Or.inr (Or.inr rfl))) (san_nil)))) (san_nil))))) (sss_one (ss_ret (se_lstA (fz := false) (n := 5) (san_cons (se_var (by rfl) (by first | exact Or.inl rfl | exact Or.inr (Or.inl rfl) | exact Or.inr (Or.inr rfl))) (san_cons (se_int) (san_cons (se_int) (san_cons (se_op (opr_or op_add (opr_or op_add_str (opr_or op_catA op_cat))) (ok_add (fz := true)) (se_int) (se_blt (CallR.or call_len call_lenD) okc_len (by rfl) x.z_len (by decide +kernel) (SAn.run (san_cons (se_var (by rfl) (by first | exact Or.inl rfl | exact Or.inr (Or.inl rfl) | exact Or.inr (Or.inr rfl))) (san_nil))))) (san_cons (se_int) (san_nil)))))))))
theorem fn_law_draw (x : Tx K mg) (tb : x.TB base) : FnM P w K mg base x.T 1 x.a_law_draw x.d_law_draw ["hand", "many"] r_law_draw := fn_ok x.F_law_draw sc_law_draw fun cdv A outer s H E hr => sss_cons (ss_if (st_w (sw_and (st_cmp (opr_or op_eq (op_eqD hr.units)) ok_eq (se_ix (hu_of hr) (se_var (by rfl) (by first | exact Or.inl rfl | exact Or.inr (Or.inl rfl) | exact Or.inr (Or.inr rfl))) (se_int)) (se_int) (by rfl)) (sw_and1 (st_cmp (opr_or op_lt op_lt_str) ok_cmpS (se_ix (hu_of hr) (se_var (by rfl) (by first | exact Or.inl rfl | exact Or.inr (Or.inl rfl) | exact Or.inr (Or.inr rfl))) (se_int)) (se_blt (CallR.or call_len call_lenD) okc_len (by rfl) x.z_len (by decide +kernel) (SAn.run (san_cons (se_ix (hu_of hr) (se_var (by rfl) (by first | exact Or.inl rfl | exact Or.inr (Or.inl rfl) | exact Or.inr (Or.inr rfl))) (se_int)) (san_nil)))) (by rfl))))) (sss_cons (ss_set (i := 2) sc_law_draw.nd (by rfl) (by first | exact Or.inl rfl | exact Or.inr rfl) (se_ix (hu_of hr) (se_ix (hu_of hr) (se_var (by rfl) (by first | exact Or.inl rfl | exact Or.inr (Or.inl rfl) | exact Or.inr (Or.inr rfl))) (se_int)) (se_ix (hu_of hr) (se_var (by rfl) (by first | exact Or.inl rfl | exact Or.inr (Or.inl rfl) | exact Or.inr (Or.inr rfl))) (se_int)))) (sss_cons (ss_asg (se_op (opr_or op_add (opr_or op_add_str (opr_or op_catA op_cat))) (ok_add (fz := true)) (se_ix (hu_of hr) (se_var (by rfl) (by first | exact Or.inl rfl | exact Or.inr (Or.inl rfl) | exact Or.inr (Or.inr rfl))) (se_int)) (se_int)) (sg_sub (hu_of hr) (se_var (by rfl) (by first | exact Or.inl rfl | exact Or.inr (Or.inl rfl) | exact Or.inr (Or.inr rfl))) (se_int))) (sss_cons (ss_asg (se_op op_modN ok_mod (se_bty call_int1 okc_int (by rfl) x.z_int (by decide +kernel) (SAn.run (san_cons (se_op (opr_or op_add (opr_or op_add_str (opr_or op_catA op_cat))) (ok_add (fz := true)) (se_op (opr_or op_add (opr_or op_add_str (opr_or op_catA op_cat))) (ok_add (fz := true)) (se_op (opr_or op_mul op_rep) (ok_mul (fz := true)) (se_ix (hu_of hr) (se_var (by rfl) (by first | exact Or.inl rfl | exact Or.inr (Or.inl rfl) | exact Or.inr (Or.inr rfl))) (se_int)) (se_int)) (se_var (by rfl) (by first | exact Or.inl rfl | exact Or.inr (Or.inl rfl) | exact Or.inr (Or.inr rfl)))) (se_int)) (san_nil)))) (se_int)) (sg_sub (hu_of hr) (se_var (by rfl) (by first | exact Or.inl rfl | exact Or.inr (Or.inl rfl) | exact Or.inr (Or.inr rfl))) (se_int))) (sss_one (ss_if (st_cmp (opr_or op_ge op_ge_str) ok_cmpS (se_var (by rfl) (by first | exact Or.inl rfl | exact Or.inr (Or.inl rfl) | exact Or.inr (Or.inr rfl))) (se_op op_pow ok_pow (se_int) (se_int)) (by rfl)) (sss_one (ss_asg (se_var (by rfl) (by first | exact Or.inl rfl | exact Or.inr (Or.inl rfl) | exact Or.inr (Or.inr rfl))) (sg_sub (hu_of hr) (se_var (by rfl) (by first | exact Or.inl rfl | exact Or.inr (Or.inl rfl) | exact Or.inr (Or.inr rfl))) (se_int)))) (sss_nil)))))) (sss_nil)) (sss_cons (ss_if (st_cmp (opr_or op_gt op_gt_str) ok_cmpS (se_ix (hu_of hr) (se_var (by rfl) (by first | exact Or.inl rfl | exact Or.inr (Or.inl rfl) | exact Or.inr (Or.inr rfl))) (se_int)) (se_int) (by rfl)) (sss_cons (ss_set (i := 3) sc_law_draw.nd (by rfl) (by first | exact Or.inl rfl | exact Or.inr rfl) (se_op op_modN ok_mod (se_bty call_int1 okc_int (by rfl) x.z_int (by decide +kernel) (SAn.run (san_cons (se_ix (hu_of hr) (se_var (by rfl) (by first | exact Or.inl rfl | exact Or.inr (Or.inl rfl) | exact Or.inr (Or.inr rfl))) (se_int)) (san_nil)))) (se_var (by rfl) (by first | exact Or.inl rfl | exact Or.inr (Or.inl rfl) | exact Or.inr (Or.inr rfl))))) (sss_cons (ss_asg (se_op op_fdivN ok_div (se_ix (hu_of hr) (se_var (by rfl) (by first | exact Or.inl rfl | exact Or.inr (Or.inl rfl) | exact Or.inr (Or.inr rfl))) (se_int)) (se_var (by rfl) (by first | exact Or.inl rfl | exact Or.inr (Or.inl rfl) | exact Or.inr (Or.inr rfl)))) (sg_sub (hu_of hr) (se_var (by rfl) (by first | exact Or.inl rfl | exact Or.inr (Or.inl rfl) | exact Or.inr (Or.inr rfl))) (se_int))) (sss_one (ss_ret (se_var (by rfl) (by first | exact Or.inl rfl | exact Or.inr (Or.inl rfl) | exact Or.inr (Or.inr rfl))))))) (sss_nil)) (sss_cons (ss_asg (se_op (opr_or op_add (opr_or op_add_str (opr_or op_catA op_cat))) (ok_add (fz := true)) (se_ix (hu_of hr) (se_var (by rfl) (by first | exact Or.inl rfl | exact Or.inr (Or.inl rfl) | exact Or.inr (Or.inr rfl))) (se_int)) (se_int)) (sg_sub (hu_of hr) (se_var (by rfl) (by first | exact Or.inl rfl | exact Or.inr (Or.inl rfl) | exact Or.inr (Or.inr rfl))) (se_int))) (sss_cons (ss_set (i := 4) sc_law_draw.nd (by rfl) (by first | exact Or.inl rfl | exact Or.inr rfl) (se_op op_modN ok_mod (se_bty call_int1 okc_int (by rfl) x.z_int (by decide +kernel) (SAn.run (san_cons (se_op (opr_or op_mul op_rep) (ok_mul (fz := true)) (se_bty call_int1 okc_int (by rfl) x.z_int (by decide +kernel) (SAn.run (san_cons (se_op (opr_or op_add (opr_or op_add_str (opr_or op_catA op_cat))) (ok_add (fz := true)) (se_ix (hu_of hr) (se_var (by rfl) (by first | exact Or.inl rfl | exact Or.inr (Or.inl rfl) | exact Or.inr (Or.inr rfl))) (se_int)) (se_op (opr_or op_mul op_rep) (ok_mul (fz := true)) (se_int) (se_ix (hu_of hr) (se_var (by rfl) (by first | exact Or.inl rfl | exact Or.inr (Or.inl rfl) | exact Or.inr (Or.inr rfl))) (se_int)))) (san_nil)))) (se_int)) (san_nil)))) (se_int))) (sss_cons (ss_set (i := 4) sc_law_draw.nd (by rfl) (by first | exact Or.inl rfl | exact Or.inr rfl) (se_op op_modN ok_mod (se_bty call_int1 okc_int (by rfl) x.z_int (by decide +kernel) (SAn.run (san_cons (se_op (opr_or op_mul op_rep) (ok_mul (fz := true)) (se_var (by rfl) (by first | exact Or.inl rfl | exact Or.inr (Or.inl rfl) | exact Or.inr (Or.inr rfl))) (se_op (opr_or op_add (opr_or op_add_str (opr_or op_catA op_cat))) (ok_add (fz := true)) (se_op op_fdivN ok_div (se_var (by rfl) (by first | exact Or.inl rfl | exact Or.inr (Or.inl rfl) | exact Or.inr (Or.inr rfl))) (se_int)) (se_int))) (san_nil)))) (se_int))) (sss_cons (ss_set (i := 4) sc_law_draw.nd (by rfl) (by first | exact Or.inl rfl | exact Or.inr rfl) (se_op op_modN ok_mod (se_bty call_int1 okc_int (by rfl) x.z_int (by decide +kernel) (SAn.run (san_cons (se_op (opr_or op_mul op_rep) (ok_mul (fz := true)) (se_var (by rfl) (by first | exact Or.inl rfl | exact Or.inr (Or.inl rfl) | exact Or.inr (Or.inr rfl))) (se_op (opr_or op_add (opr_or op_add_str (opr_or op_catA op_cat))) (ok_add (fz := true)) (se_op op_fdivN ok_div (se_var (by rfl) (by first | exact Or.inl rfl | exact Or.inr (Or.inl rfl) | exact Or.inr (Or.inr rfl))) (se_int)) (se_int))) (san_nil)))) (se_int))) (sss_one (ss_ret (se_op op_modN ok_mod (se_bty call_int1 okc_int (by rfl) x.z_int (by decide +kernel) (SAn.run (san_cons (se_op op_fdivN ok_div (se_var (by rfl) (by first | exact Or.inl rfl | exact Or.inr (Or.inl rfl) | exact Or.inr (Or.inr rfl))) (se_int)) (san_nil)))) (se_var (by rfl) (by first | exact Or.inl rfl | exact Or.inr (Or.inl rfl) | exact Or.inr (Or.inr rfl)))))))))))
theorem fn_is_integer (x : Tx K mg) (tb : x.TB base) : FnM P w K mg base x.T 1 x.a_is_integer x.d_is_integer ["thing"] r_is_integer := fn_ok x.F_is_integer sc_is_integer fun cdv A outer s H E hr => sss_one (ss_ret (se_and (se_bB (se_blt call_isi (okc_isi x.own_ok) (by rfl) x.z_isinstance (by decide +kernel) (SAn.run (san_cons (se_var (by rfl) (by first | exact Or.inl rfl | exact Or.inr (Or.inl rfl) | exact Or.inr (Or.inr rfl))) (san_cons (se_c (pe_bltn (v := .ty "int") (by rfl) x.z_int (by decide +kernel) rfl) (fun _ _ _ => by simp only [VR])) (san_nil)))))) (se_and1 (se_not (se_bB (se_blt call_isi (okc_isi x.own_ok) (by rfl) x.z_isinstance (by decide +kernel) (SAn.run (san_cons (se_var (by rfl) (by first | exact Or.inl rfl | exact Or.inr (Or.inl rfl) | exact Or.inr (Or.inr rfl))) (san_cons (se_c (pe_bltn (v := .ty "bool") (by rfl) x.z_bool (by decide +kernel) rfl) (fun _ _ _ => by simp only [VR])) (san_nil))))))))))
theorem fn_is_within (x : Tx K mg) (tb : x.TB base) : FnM P w K mg base x.T 2 x.a_is_within x.d_is_within ["low", "high", "thing"] r_is_within := fn_ok x.F_is_within sc_is_within fun cdv A outer s H E hr => sss_one (ss_ret (se_and (se_bB (se_call ((fn_is_integer x tb).mono (by decide)) hr (takes_of rfl rfl rfl rfl) (by rfl) x.g_is_integer x.F_is_integer.kp x.b_is_integer (san_cons (se_var (by rfl) (by first | exact Or.inl rfl | exact Or.inr (Or.inl rfl) | exact Or.inr (Or.inr rfl))) (san_nil)))) (se_and1 (se_bB (se_chain (opr_or op_le op_le_str) ok_cmpS (opr_or op_le op_le_str) ok_cmpS (se_var (by rfl) (by first | exact Or.inl rfl | exact Or.inr (Or.inl rfl) | exact Or.inr (Or.inr rfl))) (se_var (by rfl) (by first | exact Or.inl rfl | exact Or.inr (Or.inl rfl) | exact Or.inr (Or.inr rfl))) (se_var (by rfl) (by first | exact Or.inl rfl | exact Or.inr (Or.inl rfl) | exact Or.inr (Or.inr rfl))))))))
theorem fn_Disk_init (x : Tx K mg) (tb : x.TB base) : FnM P w K mg base x.T 3 x.a_Disk_init x.d_Disk_init ["self", "blocks"] r_Disk_init := fn_ok x.F_Disk_init sc_Disk_init fun cdv A outer s H E hr => sss_cons (ss_if (st_not (st_tr (se_call ((fn_is_within x tb).mono (by decide)) hr (takes_of rfl rfl rfl rfl) (by rfl) x.g_is_within x.F_is_within.kp x.b_is_within (san_cons (se_globI (by rfl) x.c_FEWEST_BLOCKS ⟨_, rfl⟩) (san_cons (se_globI (by rfl) x.c_MOST_BLOCKS ⟨_, rfl⟩) (san_cons (se_var (by rfl) (by first | exact Or.inl rfl | exact Or.inr (Or.inl rfl) | exact Or.inr (Or.inr rfl))) (san_nil))))))) (sss_one (ss_stk)) (sss_nil)) (sss_cons (ss_fld (cs := [0]) (se_var (by rfl) (by first | exact Or.inl rfl | exact Or.inr (Or.inl rfl) | exact Or.inr (Or.inr rfl))) (se_op (opr_or op_mul op_rep) (ok_mul (fz := false)) (se_lstA (fz := true) (n := 1) (san_cons (se_tupA (n := 0) (san_nil)) (san_nil))) (se_var (by rfl) (by first | exact Or.inl rfl | exact Or.inr (Or.inl rfl) | exact Or.inr (Or.inr rfl)))) x.f_contents) (sss_cons (ss_fld (cs := [0]) (se_var (by rfl) (by first | exact Or.inl rfl | exact Or.inr (Or.inl rfl) | exact Or.inr (Or.inr rfl))) (se_dict0) x.f_cached) (sss_cons (ss_fld (cs := [0]) (se_var (by rfl) (by first | exact Or.inl rfl | exact Or.inr (Or.inl rfl) | exact Or.inr (Or.inr rfl))) (se_non) x.f_left) (sss_one (ss_fld (cs := [0]) (se_var (by rfl) (by first | exact Or.inl rfl | exact Or.inr (Or.inl rfl) | exact Or.inr (Or.inr rfl))) (se_int) x.f_arrived)))))
theorem fn_law_book (x : Tx K mg) (tb : x.TB base) : FnM P w K mg base x.T 1 x.a_law_book x.d_law_book ["blocks"] r_law_book := fn_ok x.F_law_book sc_law_book fun cdv A outer s H E hr => sss_one (ss_ret (se_disp (sd_cons (se_str) (se_op (opr_or op_mul op_rep) (ok_mul (fz := false)) (se_lstA (fz := true) (n := 1) (san_cons (se_tupA (n := 0) (san_nil)) (san_nil))) (se_var (by rfl) (by first | exact Or.inl rfl | exact Or.inr (Or.inl rfl) | exact Or.inr (Or.inr rfl)))) (sd_cons (se_str) (se_dict0) (sd_cons (se_str) (se_non) (sd_cons (se_str) (se_int) (sd_nil)))))))
theorem fn_law_any (x : Tx K mg) (tb : x.TB base) : FnM P w K mg base x.T 2 x.a_law_any x.d_law_any ["hand", "some"] r_law_any := fn_ok x.F_law_any sc_law_any fun cdv A outer s H E hr => sss_one (ss_ret (se_ix (hu_of hr) (se_var (by rfl) (by first | exact Or.inl rfl | exact Or.inr (Or.inl rfl) | exact Or.inr (Or.inr rfl))) (se_call ((fn_law_draw x tb).mono (by decide)) hr (takes_of rfl rfl rfl rfl) (by rfl) x.g_law_draw x.F_law_draw.kp x.b_law_draw (san_cons (se_var (by rfl) (by first | exact Or.inl rfl | exact Or.inr (Or.inl rfl) | exact Or.inr (Or.inr rfl))) (san_cons (se_blt (CallR.or call_len call_lenD) okc_len (by rfl) x.z_len (by decide +kernel) (SAn.run (san_cons (se_var (by rfl) (by first | exact Or.inl rfl | exact Or.inr (Or.inl rfl) | exact Or.inr (Or.inr rfl))) (san_nil)))) (san_nil))))))
theorem fn_law_content (x : Tx K mg) (tb : x.TB base) : FnM P w K mg base x.T 3 x.a_law_content x.d_law_content ["hand"] r_law_content := fn_ok x.F_law_content sc_law_content fun cdv A outer s H E hr => sss_cons (ss_set (i := 1) sc_law_content.nd (by rfl) (by first | exact Or.inl rfl | exact Or.inr rfl) (se_lstA (fz := true) (n := 9) (san_cons (se_int) (san_cons (se_int) (san_cons (se_neg (se_int)) (san_cons (se_op op_pow ok_pow (se_int) (se_int)) (san_cons (se_neg (se_op op_pow ok_pow (se_int) (se_int))) (san_cons (se_str) (san_cons (se_str) (san_cons (se_str) (san_cons (se_call ((fn_law_draw x tb).mono (by decide)) hr (takes_of rfl rfl rfl rfl) (by rfl) x.g_law_draw x.F_law_draw.kp x.b_law_draw (san_cons (se_var (by rfl) (by first | exact Or.inl rfl | exact Or.inr (Or.inl rfl) | exact Or.inr (Or.inr rfl))) (san_cons (se_int) (san_nil)))) (san_nil)))))))))))) (sss_cons (ss_set (i := 2) sc_law_content.nd (by rfl) (by first | exact Or.inl rfl | exact Or.inr rfl) (se_call ((fn_law_any x tb).mono (by decide)) hr (takes_of rfl rfl rfl rfl) (by rfl) x.g_law_any x.F_law_any.kp x.b_law_any (san_cons (se_var (by rfl) (by first | exact Or.inl rfl | exact Or.inr (Or.inl rfl) | exact Or.inr (Or.inr rfl))) (san_cons (se_lstA (fz := true) (n := 6) (san_cons (se_int) (san_cons (se_int) (san_cons (se_int) (san_cons (se_int) (san_cons (se_int) (san_cons (se_int) (san_nil)))))))) (san_nil))))) (sss_one (ss_ret (se_bty call_tuple_of okc_tuple (by rfl) x.z_tuple (by decide +kernel) (SAn.run (san_cons (se_comp (fz := true) (own := [("item", 3)]) (t := (.one 3)) rfl sc_law_content.nd (si_range1 (by rfl) x.z_range (SAn.run (san_cons (se_var (by rfl) (by first | exact Or.inl rfl | exact Or.inr (Or.inl rfl) | exact Or.inr (Or.inr rfl))) (san_nil)))) (blkOk_by (own := [("item", 3)]) (N := N_law_content) (sc := (defScope s_law_content)) (by decide +kernel)) (by decide) (fun _ _ _ _ _ => pg_name (i := 3) sc_law_content.nd (by rfl) (Or.inl (by rfl))) (.inl ⟨rfl, rfl⟩) (fun _ _ _ _ _ => se_call ((fn_law_any x tb).mono (by decide)) hr takes0 (by rfl) x.g_law_any x.F_law_any.kp x.b_law_any (san_cons (se_var (by rfl) (by first | exact Or.inl rfl | exact Or.inr (Or.inl rfl) | exact Or.inr (Or.inr rfl))) (san_cons (se_var (by rfl) (by first | exact Or.inl rfl | exact Or.inr (Or.inl rfl) | exact Or.inr (Or.inr rfl))) (san_nil))))) (san_nil)))))))
theorem fn_law_wrote (x : Tx K mg) (tb : x.TB base) : FnM P w K mg base x.T 1 x.a_law_wrote x.d_law_wrote ["book", "block", "content"] r_law_wrote := fn_ok x.F_law_wrote sc_law_wrote fun cdv A outer s H E hr => sss_one (ss_asg (se_op (opr_or op_add (opr_or op_add_str (opr_or op_catA op_cat))) (ok_add (fz := true)) (se_dget2 (hu_of hr) (se_ix (hu_of hr) (se_var (by rfl) (by first | exact Or.inl rfl | exact Or.inr (Or.inl rfl) | exact Or.inr (Or.inr rfl))) (se_str)) (se_var (by rfl) (by first | exact Or.inl rfl | exact Or.inr (Or.inl rfl) | exact Or.inr (Or.inr rfl))) (se_lstA (fz := true) (n := 0) (san_nil)) m2_of) (se_lstA (fz := true) (n := 1) (san_cons (se_var (by rfl) (by first | exact Or.inl rfl | exact Or.inr (Or.inl rfl) | exact Or.inr (Or.inr rfl))) (san_nil)))) (sg_sub (hu_of hr) (se_ix (hu_of hr) (se_var (by rfl) (by first | exact Or.inl rfl | exact Or.inr (Or.inl rfl) | exact Or.inr (Or.inr rfl))) (se_str)) (se_var (by rfl) (by first | exact Or.inl rfl | exact Or.inr (Or.inl rfl) | exact Or.inr (Or.inr rfl)))))
theorem gv_law_word (x : Tx K mg) (tb : x.TB base) {A : Around} {stk : List Env} (cdv : Value) (s : Shared) (G : Hp) (hr : Room 0 (A.deeper (envOfC "_law_word" (defScope s_law_word) s.heap.objs.size x.a_law_word cdv))) (F : W) (cl : Sto → Rs W) (hc : CallP (cxOf C8.CX0 P w K mg base N_law_word "_law_word" (defScope s_law_word) x.a_law_word cdv A stk s G C8.E0) x.T F 0 "call" cl) : SSs (cxOf C8.CX0 P w K mg base N_law_word "_law_word" (defScope s_law_word) x.a_law_word cdv A stk s G C8.E0).nox x.T W0 (defBody s_law_word) (mL_law_word F cl) := sss_cons (ss_set (i := 1) sc_law_word.nd (by rfl) (by first | exact Or.inl rfl | exact Or.inr rfl) (se_str)) (sss_cons (ss_tryM (by rfl) (by rfl) sc_law_word.nd takes0 (HdsM.cons (tb := [(1, true), (2, false), (3, false)]) (i := 2) (k := fun n a => sAsg (mIf (mAnd (mTr (mExIs n a [(1, true), (2, true), (3, true)] 2)) (mTr (mExIs n a [(1, true), (2, true), (3, true)] 2))) (mC (.str "stopped")) (mC (.str "other"))) (gName' 1)) (by rfl) (by rfl) ⟨(by rfl), (by decide), Or.inl x.e_Stopped.mg⟩ x.tb_Stopped (fun n a oe pn hn hz hf => sss_one (ss_set (i := 1) sc_law_word.nd (by rfl) (by first | exact Or.inl rfl | exact Or.inr rfl) (se_ifx (st_w (sw_and (st_tr (se_exis (tb := [(1, true), (2, true), (3, true)]) x.ec_all hz hf x.kt_StoreError (by rfl) x.z_isinstance (by rfl) (by first | exact Or.inl rfl | exact Or.inr (Or.inl rfl) | exact Or.inr (Or.inr rfl)) (by rfl) x.e_StoreError.mg)) (sw_and1 (st_tr (se_exisB (tb := [(1, true), (2, true), (3, true)]) (t := "ValueError") x.ec_all hz hf x.kb_ValueError (by rfl) x.z_isinstance (by rfl) (by first | exact Or.inl rfl | exact Or.inr (Or.inl rfl) | exact Or.inr (Or.inr rfl)) (by rfl) x.z_ValueError (by decide +kernel)))))) (se_str) (se_str)))) (HdsM.cons (tb := [(1, false), (2, true), (3, false)]) (i := 2) (k := fun n a => sAsg (mIf (mAnd (mTr (mExIs n a [(1, true), (2, true), (3, true)] 2)) (mTr (mExIs n a [(1, true), (2, true), (3, true)] 2))) (mC (.str "nothing")) (mC (.str "other"))) (gName' 1)) (by rfl) (by rfl) ⟨(by rfl), (by decide), Or.inl x.e_NothingWaits.mg⟩ x.tb_NothingWaits (fun n a oe pn hn hz hf => sss_one (ss_set (i := 1) sc_law_word.nd (by rfl) (by first | exact Or.inl rfl | exact Or.inr rfl) (se_ifx (st_w (sw_and (st_tr (se_exis (tb := [(1, true), (2, true), (3, true)]) x.ec_all hz hf x.kt_StoreError (by rfl) x.z_isinstance (by rfl) (by first | exact Or.inl rfl | exact Or.inr (Or.inl rfl) | exact Or.inr (Or.inr rfl)) (by rfl) x.e_StoreError.mg)) (sw_and1 (st_tr (se_exisB (tb := [(1, true), (2, true), (3, true)]) (t := "ValueError") x.ec_all hz hf x.kb_ValueError (by rfl) x.z_isinstance (by rfl) (by first | exact Or.inl rfl | exact Or.inr (Or.inl rfl) | exact Or.inr (Or.inr rfl)) (by rfl) x.z_ValueError (by decide +kernel)))))) (se_str) (se_str)))) (HdsM.nil))) (fun Wy pn xe tk1 pw1 => sss_one (ss_forget tk1 (by rfl) (fun E0 tk0 => ss_set (i := 1) sc_law_word.nd (by rfl) (by first | exact Or.inl rfl | exact Or.inr rfl) (hc E0 pn xe _ _ tk0))))) (sss_one (ss_ret (se_var (by rfl) (by first | exact Or.inl rfl | exact Or.inr (Or.inl rfl) | exact Or.inr (Or.inr rfl))))))
theorem pr_law_word (F : W) (cl : Sto → Rs W) (st : Sto) : outOf (mL_law_word F cl (some F :: List.replicate 2 none) st) = outOf (mL_law_word .non cl (some .non :: List.replicate 2 none) st) := by
  rcases h : cl st with ⟨a, s⟩ | ⟨⟨k⟩, s⟩ | _ <;> simp [mL_law_word, sSeq, sAsg, gName', gDo, mCallP, sForget, sTry, sTryM, catchA, sExpr, sRet, sNx, mVar, mC, calmS, outOf, Rs.to, List.lookup, h]
theorem fn_Disk_blocks (x : Tx K mg) (tb : x.TB base) : FnM P w K mg base x.T 1 x.a_Disk_blocks x.d_Disk_blocks ["self"] r_Disk_blocks := fn_ok x.F_Disk_blocks sc_Disk_blocks fun cdv A outer s H E hr => sss_one (ss_ret (se_blt (CallR.or call_len call_lenD) okc_len (by rfl) x.z_len (by decide +kernel) (SAn.run (san_cons (se_fld (cs := [0]) (se_var (by rfl) (by first | exact Or.inl rfl | exact Or.inr (Or.inl rfl) | exact Or.inr (Or.inr rfl))) x.f_contents) (san_nil)))))
theorem fn_Disk_demand_block (x : Tx K mg) (tb : x.TB base) : FnM P w K mg base x.T 3 x.a_Disk_demand_block x.d_Disk_demand_block ["self", "block"] r_Disk_demand_block := fn_ok x.F_Disk_demand_block sc_Disk_demand_block fun cdv A outer s H E hr => sss_one (ss_if (st_not (st_tr (se_call ((fn_is_within x tb).mono (by decide)) hr (takes_of rfl rfl rfl rfl) (by rfl) x.g_is_within x.F_is_within.kp x.b_is_within (san_cons (se_int) (san_cons (se_op op_sub ok_sub (se_meth0 (tb := [(0, r_Disk_blocks)]) (se_var (by rfl) (by first | exact Or.inl rfl | exact Or.inr (Or.inl rfl) | exact Or.inr (Or.inr rfl))) (fun p hp => by
      simp only [List.mem_cons, List.not_mem_nil, or_false] at hp
      rcases hp with rfl
      exact ⟨x.cl_Disk, x.a_Disk_blocks, x.d_Disk_blocks, _, x.me_Disk_blocks, (fn_Disk_blocks x tb).mono (by decide), x.b_Disk_blocks, rfl⟩) hr (takes_of rfl rfl rfl rfl)) (se_int)) (san_cons (se_var (by rfl) (by first | exact Or.inl rfl | exact Or.inr (Or.inl rfl) | exact Or.inr (Or.inr rfl))) (san_nil))))))) (sss_one (ss_stk)) (sss_nil))
theorem fn_is_word (x : Tx K mg) (tb : x.TB base) : FnM P w K mg base x.T 1 x.a_is_word x.d_is_word ["thing"] r_is_word := fn_ok x.F_is_word sc_is_word fun cdv A outer s H E hr => sss_cons (ss_if (st_w (sw_or (st_not (st_tr (se_blt call_isi (okc_isi x.own_ok) (by rfl) x.z_isinstance (by decide +kernel) (SAn.run (san_cons (se_var (by rfl) (by first | exact Or.inl rfl | exact Or.inr (Or.inl rfl) | exact Or.inr (Or.inr rfl))) (san_cons (se_c (pe_bltn (v := .ty "str") (by rfl) x.z_str (by decide +kernel) rfl) (fun _ _ _ => by simp only [VR])) (san_nil))))))) (sw_or1 (st_cmp (opr_or op_gt op_gt_str) ok_cmpS (se_blt (CallR.or call_len call_lenD) okc_len (by rfl) x.z_len (by decide +kernel) (SAn.run (san_cons (se_var (by rfl) (by first | exact Or.inl rfl | exact Or.inr (Or.inl rfl) | exact Or.inr (Or.inr rfl))) (san_nil)))) (se_globI (by rfl) x.c_LONGEST_WORD ⟨_, rfl⟩) (by rfl))))) (sss_one (ss_ret (se_bl))) (sss_nil)) (sss_one (ss_ret (se_blt (cr_all rfl) okc_all (by rfl) x.z_all (by decide +kernel) (SAn.run (san_cons (se_comp (fz := true) (own := [("sign", 1)]) (t := (.one 1)) rfl sc_is_word.nd (si_str (se_var (by rfl) (by first | exact Or.inl rfl | exact Or.inr (Or.inl rfl) | exact Or.inr (Or.inr rfl)))) (blkOk_by (own := [("sign", 1)]) (N := N_is_word) (sc := (defScope s_is_word)) (by decide +kernel)) (by decide) (fun _ _ _ _ _ => pg_name (i := 1) sc_is_word.nd (by rfl) (Or.inl (by rfl))) (.inl ⟨rfl, rfl⟩) (fun _ _ _ _ _ => se_chain (opr_or op_le op_le_str) ok_cmpS (opr_or op_le op_le_str) ok_cmpS (se_str) (se_var (by rfl) (by first | exact Or.inl rfl | exact Or.inr (Or.inl rfl) | exact Or.inr (Or.inr rfl))) (se_str))) (san_nil))))))
theorem fn_is_item (x : Tx K mg) (tb : x.TB base) : FnM P w K mg base x.T 3 x.a_is_item x.d_is_item ["thing"] r_is_item := fn_ok x.F_is_item sc_is_item fun cdv A outer s H E hr => sss_one (ss_ret (se_or (se_bB (se_call ((fn_is_word x tb).mono (by decide)) hr (takes_of rfl rfl rfl rfl) (by rfl) x.g_is_word x.F_is_word.kp x.b_is_word (san_cons (se_var (by rfl) (by first | exact Or.inl rfl | exact Or.inr (Or.inl rfl) | exact Or.inr (Or.inr rfl))) (san_nil)))) (se_and1 (se_bB (se_call ((fn_is_within x tb).mono (by decide)) hr (takes_of rfl rfl rfl rfl) (by rfl) x.g_is_within x.F_is_within.kp x.b_is_within (san_cons (se_neg (se_globI (by rfl) x.c_GREATEST_ITEM ⟨_, rfl⟩)) (san_cons (se_globI (by rfl) x.c_GREATEST_ITEM ⟨_, rfl⟩) (san_cons (se_var (by rfl) (by first | exact Or.inl rfl | exact Or.inr (Or.inl rfl) | exact Or.inr (Or.inr rfl))) (san_nil)))))))))
theorem fn_is_row (x : Tx K mg) (tb : x.TB base) : FnM P w K mg base x.T 4 x.a_is_row x.d_is_row ["low", "high", "thing"] r_is_row := fn_ok x.F_is_row sc_is_row fun cdv A outer s H E hr => sss_cons (ss_if (st_w (sw_or (st_not (st_tr (se_blt call_isi (okc_isi x.own_ok) (by rfl) x.z_isinstance (by decide +kernel) (SAn.run (san_cons (se_var (by rfl) (by first | exact Or.inl rfl | exact Or.inr (Or.inl rfl) | exact Or.inr (Or.inr rfl))) (san_cons (se_c (pe_bltn (v := .ty "tuple") (by rfl) x.z_tuple (by decide +kernel) rfl) (fun _ _ _ => by simp only [VR])) (san_nil))))))) (sw_or1 (st_not (st_chain (opr_or op_le op_le_str) ok_cmpS (opr_or op_le op_le_str) ok_cmpS (se_var (by rfl) (by first | exact Or.inl rfl | exact Or.inr (Or.inl rfl) | exact Or.inr (Or.inr rfl))) (se_blt (CallR.or call_len call_lenD) okc_len (by rfl) x.z_len (by decide +kernel) (SAn.run (san_cons (se_var (by rfl) (by first | exact Or.inl rfl | exact Or.inr (Or.inl rfl) | exact Or.inr (Or.inr rfl))) (san_nil)))) (se_var (by rfl) (by first | exact Or.inl rfl | exact Or.inr (Or.inl rfl) | exact Or.inr (Or.inr rfl)))))))) (sss_one (ss_ret (se_bl))) (sss_nil)) (sss_one (ss_ret (se_blt (cr_all rfl) okc_all (by rfl) x.z_all (by decide +kernel) (SAn.run (san_cons (se_comp (fz := true) (own := [("item", 3)]) (t := (.one 3)) rfl sc_is_row.nd (si_tup (se_var (by rfl) (by first | exact Or.inl rfl | exact Or.inr (Or.inl rfl) | exact Or.inr (Or.inr rfl)))) (blkOk_by (own := [("item", 3)]) (N := N_is_row) (sc := (defScope s_is_row)) (by decide +kernel)) (by decide) (fun _ _ _ _ _ => pg_name (i := 3) sc_is_row.nd (by rfl) (Or.inl (by rfl))) (.inl ⟨rfl, rfl⟩) (fun _ _ _ _ _ => se_call ((fn_is_item x tb).mono (by decide)) hr takes0 (by rfl) x.g_is_item x.F_is_item.kp x.b_is_item (san_cons (se_var (by rfl) (by first | exact Or.inl rfl | exact Or.inr (Or.inl rfl) | exact Or.inr (Or.inr rfl))) (san_nil)))) (san_nil))))))
theorem fn_is_content (x : Tx K mg) (tb : x.TB base) : FnM P w K mg base x.T 5 x.a_is_content x.d_is_content ["thing"] r_is_content := fn_ok x.F_is_content sc_is_content fun cdv A outer s H E hr => sss_one (ss_ret (se_call ((fn_is_row x tb).mono (by decide)) hr (takes_of rfl rfl rfl rfl) (by rfl) x.g_is_row x.F_is_row.kp x.b_is_row (san_cons (se_int) (san_cons (se_globI (by rfl) x.c_LONGEST_CONTENT ⟨_, rfl⟩) (san_cons (se_var (by rfl) (by first | exact Or.inl rfl | exact Or.inr (Or.inl rfl) | exact Or.inr (Or.inr rfl))) (san_nil))))))
theorem fn_Disk_write (x : Tx K mg) (tb : x.TB base) : FnM P w K mg base x.T 6 x.a_Disk_write x.d_Disk_write ["self", "block", "content"] r_Disk_write := fn_ok x.F_Disk_write sc_Disk_write fun cdv A outer s H E hr => sss_cons (ss_expr (se_meth (n := 1) (tb := [(0, r_Disk_demand_block)]) (se_var (by rfl) (by first | exact Or.inl rfl | exact Or.inr (Or.inl rfl) | exact Or.inr (Or.inr rfl))) (fun p hp => by
      simp only [List.mem_cons, List.not_mem_nil, or_false] at hp
      rcases hp with rfl
      exact ⟨x.cl_Disk, x.a_Disk_demand_block, x.d_Disk_demand_block, _, x.me_Disk_demand_block, (fn_Disk_demand_block x tb).mono (by decide), x.b_Disk_demand_block, rfl⟩) hr (takes_of rfl rfl rfl rfl) (san_cons (se_var (by rfl) (by first | exact Or.inl rfl | exact Or.inr (Or.inl rfl) | exact Or.inr (Or.inr rfl))) (san_nil)))) (sss_cons (ss_if (st_not (st_tr (se_call ((fn_is_content x tb).mono (by decide)) hr (takes_of rfl rfl rfl rfl) (by rfl) x.g_is_content x.F_is_content.kp x.b_is_content (san_cons (se_var (by rfl) (by first | exact Or.inl rfl | exact Or.inr (Or.inl rfl) | exact Or.inr (Or.inr rfl))) (san_nil))))) (sss_one (ss_stk)) (sss_nil)) (sss_one (ss_expr (se_lm PySem.F.slot_list_append PySem.F.type_list_append mt_append okm_append (se_dset2 (se_fld (cs := [0]) (se_var (by rfl) (by first | exact Or.inl rfl | exact Or.inr (Or.inl rfl) | exact Or.inr (Or.inr rfl))) x.f_cached) (se_var (by rfl) (by first | exact Or.inl rfl | exact Or.inr (Or.inl rfl) | exact Or.inr (Or.inr rfl))) (se_lstA (fz := false) (n := 0) (san_nil)) m2_of) (SAn.run (san_cons (se_var (by rfl) (by first | exact Or.inl rfl | exact Or.inr (Or.inl rfl) | exact Or.inr (Or.inr rfl))) (san_nil)))))))
theorem fn_law_reached (x : Tx K mg) (tb : x.TB base) : FnM P w K mg base x.T 1 x.a_law_reached x.d_law_reached ["book", "block"] r_law_reached := fn_ok x.F_law_reached sc_law_reached fun cdv A outer s H E hr => sss_cons (ss_if (st_cmp (opr_or op_eq (op_eqD hr.units)) ok_eq (se_ix (hu_of hr) (se_var (by rfl) (by first | exact Or.inl rfl | exact Or.inr (Or.inl rfl) | exact Or.inr (Or.inr rfl))) (se_str)) (se_int) (by rfl)) (sss_one (ss_ret (se_bl))) (sss_nil)) (sss_cons (ss_if (st_cmp (opr_or op_notN op_isNotF) ok_isnot (se_ix (hu_of hr) (se_var (by rfl) (by first | exact Or.inl rfl | exact Or.inr (Or.inl rfl) | exact Or.inr (Or.inr rfl))) (se_str)) (se_non) (by rfl)) (sss_one (ss_asg (se_op op_sub ok_sub (se_ix (hu_of hr) (se_var (by rfl) (by first | exact Or.inl rfl | exact Or.inr (Or.inl rfl) | exact Or.inr (Or.inr rfl))) (se_str)) (se_int)) (sg_sub (hu_of hr) (se_var (by rfl) (by first | exact Or.inl rfl | exact Or.inr (Or.inl rfl) | exact Or.inr (Or.inr rfl))) (se_str)))) (sss_nil)) (sss_cons (ss_set (i := 2) sc_law_reached.nd (by rfl) (by first | exact Or.inl rfl | exact Or.inr rfl) (se_dpop (se_ix (hu_of hr) (se_var (by rfl) (by first | exact Or.inl rfl | exact Or.inr (Or.inl rfl) | exact Or.inr (Or.inr rfl))) (se_str)) (se_var (by rfl) (by first | exact Or.inl rfl | exact Or.inr (Or.inl rfl) | exact Or.inr (Or.inr rfl))) m1_of)) (sss_cons (ss_asg (se_ix (hu_of hr) (se_var (by rfl) (by first | exact Or.inl rfl | exact Or.inr (Or.inl rfl) | exact Or.inr (Or.inr rfl))) (se_int)) (sg_sub (hu_of hr) (se_ix (hu_of hr) (se_var (by rfl) (by first | exact Or.inl rfl | exact Or.inr (Or.inl rfl) | exact Or.inr (Or.inr rfl))) (se_str)) (se_var (by rfl) (by first | exact Or.inl rfl | exact Or.inr (Or.inl rfl) | exact Or.inr (Or.inr rfl))))) (sss_cons (ss_asg (se_op (opr_or op_add (opr_or op_add_str (opr_or op_catA op_cat))) (ok_add (fz := true)) (se_ix (hu_of hr) (se_var (by rfl) (by first | exact Or.inl rfl | exact Or.inr (Or.inl rfl) | exact Or.inr (Or.inr rfl))) (se_str)) (se_int)) (sg_sub (hu_of hr) (se_var (by rfl) (by first | exact Or.inl rfl | exact Or.inr (Or.inl rfl) | exact Or.inr (Or.inr rfl))) (se_str))) (sss_cons (ss_if (st_cmp (opr_or op_gt op_gt_str) ok_cmpS (se_blt (CallR.or call_len call_lenD) okc_len (by rfl) x.z_len (by decide +kernel) (SAn.run (san_cons (se_var (by rfl) (by first | exact Or.inl rfl | exact Or.inr (Or.inl rfl) | exact Or.inr (Or.inr rfl))) (san_nil)))) (se_int) (by rfl)) (sss_one (ss_asg (se_sl (fz := true) (se_var (by rfl) (by first | exact Or.inl rfl | exact Or.inr (Or.inl rfl) | exact Or.inr (Or.inr rfl))) (sp_some (se_int)) (sp_none)) (sg_sub (hu_of hr) (se_ix (hu_of hr) (se_var (by rfl) (by first | exact Or.inl rfl | exact Or.inr (Or.inl rfl) | exact Or.inr (Or.inr rfl))) (se_str)) (se_var (by rfl) (by first | exact Or.inl rfl | exact Or.inr (Or.inl rfl) | exact Or.inr (Or.inr rfl)))))) (sss_nil)) (sss_one (ss_ret (se_bl))))))))
theorem fn_Disk_let_reach (x : Tx K mg) (tb : x.TB base) : FnM P w K mg base x.T 1 x.a_Disk_let_reach x.d_Disk_let_reach ["self", "block"] r_Disk_let_reach := fn_ok x.F_Disk_let_reach sc_Disk_let_reach fun cdv A outer s H E hr => sss_cons (ss_if (st_cmp (opr_or op_eq (op_eqD hr.units)) ok_eq (se_fld (cs := [0]) (se_var (by rfl) (by first | exact Or.inl rfl | exact Or.inr (Or.inl rfl) | exact Or.inr (Or.inr rfl))) x.f_left) (se_int) (by rfl)) (sss_one (ss_raise0 (c := 1) rfl (takes_of rfl rfl rfl rfl) (ExcF.ok (X := _) x.e_Stopped) (by rfl))) (sss_nil)) (sss_cons (ss_if (st_cmp (opr_or op_notN op_isNotF) ok_isnot (se_fld (cs := [0]) (se_var (by rfl) (by first | exact Or.inl rfl | exact Or.inr (Or.inl rfl) | exact Or.inr (Or.inr rfl))) x.f_left) (se_non) (by rfl)) (sss_one (ss_faug (cs := [0]) (se_var (by rfl) (by first | exact Or.inl rfl | exact Or.inr (Or.inl rfl) | exact Or.inr (Or.inr rfl))) (se_int) in_sub (fun _ _ _ _ h => ⟨_, _, rfl, rfl, h⟩) x.f_left)) (sss_nil)) (sss_cons (ss_asg (se_lm PySem.F.slot_list_pop PySem.F.type_list_pop mt_popAt okm_popAt (se_ix (hu_of hr) (se_fld (cs := [0]) (se_var (by rfl) (by first | exact Or.inl rfl | exact Or.inr (Or.inl rfl) | exact Or.inr (Or.inr rfl))) x.f_cached) (se_var (by rfl) (by first | exact Or.inl rfl | exact Or.inr (Or.inl rfl) | exact Or.inr (Or.inr rfl)))) (SAn.run (san_cons (se_int) (san_nil)))) (sg_sub (hu_of hr) (se_fld (cs := [0]) (se_var (by rfl) (by first | exact Or.inl rfl | exact Or.inr (Or.inl rfl) | exact Or.inr (Or.inr rfl))) x.f_contents) (se_var (by rfl) (by first | exact Or.inl rfl | exact Or.inr (Or.inl rfl) | exact Or.inr (Or.inr rfl))))) (sss_cons (ss_if (st_not (st_tr (se_ix (hu_of hr) (se_fld (cs := [0]) (se_var (by rfl) (by first | exact Or.inl rfl | exact Or.inr (Or.inl rfl) | exact Or.inr (Or.inr rfl))) x.f_cached) (se_var (by rfl) (by first | exact Or.inl rfl | exact Or.inr (Or.inl rfl) | exact Or.inr (Or.inr rfl)))))) (sss_one (ss_del (se_fld (cs := [0]) (se_var (by rfl) (by first | exact Or.inl rfl | exact Or.inr (Or.inl rfl) | exact Or.inr (Or.inr rfl))) x.f_cached) (se_var (by rfl) (by first | exact Or.inl rfl | exact Or.inr (Or.inl rfl) | exact Or.inr (Or.inr rfl))))) (sss_nil)) (sss_one (ss_faug (cs := [0]) (se_var (by rfl) (by first | exact Or.inl rfl | exact Or.inr (Or.inl rfl) | exact Or.inr (Or.inr rfl))) (se_int) in_add (fun _ _ _ _ h => ⟨_, _, rfl, rfl, h⟩) x.f_arrived)))))
theorem fn_Disk_reach (x : Tx K mg) (tb : x.TB base) : FnM P w K mg base x.T 4 x.a_Disk_reach x.d_Disk_reach ["self", "block"] r_Disk_reach := fn_ok x.F_Disk_reach sc_Disk_reach fun cdv A outer s H E hr => sss_cons (ss_expr (se_meth (n := 1) (tb := [(0, r_Disk_demand_block)]) (se_var (by rfl) (by first | exact Or.inl rfl | exact Or.inr (Or.inl rfl) | exact Or.inr (Or.inr rfl))) (fun p hp => by
      simp only [List.mem_cons, List.not_mem_nil, or_false] at hp
      rcases hp with rfl
      exact ⟨x.cl_Disk, x.a_Disk_demand_block, x.d_Disk_demand_block, _, x.me_Disk_demand_block, (fn_Disk_demand_block x tb).mono (by decide), x.b_Disk_demand_block, rfl⟩) hr (takes_of rfl rfl rfl rfl) (san_cons (se_var (by rfl) (by first | exact Or.inl rfl | exact Or.inr (Or.inl rfl) | exact Or.inr (Or.inr rfl))) (san_nil)))) (sss_cons (ss_if (st_dnin (hu_of hr) (se_var (by rfl) (by first | exact Or.inl rfl | exact Or.inr (Or.inl rfl) | exact Or.inr (Or.inr rfl))) (se_fld (cs := [0]) (se_var (by rfl) (by first | exact Or.inl rfl | exact Or.inr (Or.inl rfl) | exact Or.inr (Or.inr rfl))) x.f_cached)) (sss_one (ss_raise0 (c := 2) rfl (takes_of rfl rfl rfl rfl) (ExcF.ok (X := _) x.e_NothingWaits) (by rfl))) (sss_nil)) (sss_one (ss_expr (se_meth (n := 1) (tb := [(0, r_Disk_let_reach)]) (se_var (by rfl) (by first | exact Or.inl rfl | exact Or.inr (Or.inl rfl) | exact Or.inr (Or.inr rfl))) (fun p hp => by
      simp only [List.mem_cons, List.not_mem_nil, or_false] at hp
      rcases hp with rfl
      exact ⟨x.cl_Disk, x.a_Disk_let_reach, x.d_Disk_let_reach, _, x.me_Disk_let_reach, (fn_Disk_let_reach x tb).mono (by decide), x.b_Disk_let_reach, rfl⟩) hr (takes_of rfl rfl rfl rfl) (san_cons (se_var (by rfl) (by first | exact Or.inl rfl | exact Or.inr (Or.inl rfl) | exact Or.inr (Or.inr rfl))) (san_nil))))))
theorem fn_law_forced (x : Tx K mg) (tb : x.TB base) : FnM P w K mg base x.T 2 x.a_law_forced x.d_law_forced ["book", "lot"] r_law_forced := fn_ok x.F_law_forced sc_law_forced fun cdv A outer s H E hr => sss_cons (ss_for (passes_of rfl) rfl (si_any (se_var (by rfl) (by first | exact Or.inl rfl | exact Or.inr (Or.inl rfl) | exact Or.inr (Or.inr rfl)))) (sg_name (i := 2) sc_law_forced.nd (by rfl) (by first | exact Or.inl rfl | exact Or.inr rfl)) (sss_one (ss_while (fuel := 1000000) (passes_of rfl) (st_din (hu_of hr) (se_var (by rfl) (by first | exact Or.inl rfl | exact Or.inr (Or.inl rfl) | exact Or.inr (Or.inr rfl))) (se_ix (hu_of hr) (se_var (by rfl) (by first | exact Or.inl rfl | exact Or.inr (Or.inl rfl) | exact Or.inr (Or.inr rfl))) (se_str))) (sss_one (ss_if (st_not (st_tr (se_call ((fn_law_reached x tb).mono (by decide)) hr (takes_of rfl rfl rfl rfl) (by rfl) x.g_law_reached x.F_law_reached.kp x.b_law_reached (san_cons (se_var (by rfl) (by first | exact Or.inl rfl | exact Or.inr (Or.inl rfl) | exact Or.inr (Or.inr rfl))) (san_cons (se_var (by rfl) (by first | exact Or.inl rfl | exact Or.inr (Or.inl rfl) | exact Or.inr (Or.inr rfl))) (san_nil)))))) (sss_one (ss_ret (se_bl))) (sss_nil)))))) (sss_one (ss_ret (se_bl)))
theorem fn_is_lot_below (x : Tx K mg) (tb : x.TB base) : FnM P w K mg base x.T 3 x.a_is_lot_below x.d_is_lot_below ["bound", "thing"] r_is_lot_below := fn_ok x.F_is_lot_below sc_is_lot_below fun cdv A outer s H E hr => sss_cons (ss_if (st_not (st_tr (se_blt call_isi (okc_isi x.own_ok) (by rfl) x.z_isinstance (by decide +kernel) (SAn.run (san_cons (se_var (by rfl) (by first | exact Or.inl rfl | exact Or.inr (Or.inl rfl) | exact Or.inr (Or.inr rfl))) (san_cons (se_c (pe_bltn (v := .ty "tuple") (by rfl) x.z_tuple (by decide +kernel) rfl) (fun _ _ _ => by simp only [VR])) (san_nil))))))) (sss_one (ss_ret (se_bl))) (sss_nil)) (sss_cons (ss_set (i := 2) sc_is_lot_below.nd (by rfl) (by first | exact Or.inl rfl | exact Or.inr rfl) (se_int)) (sss_cons (ss_for (passes_of rfl) rfl (si_tup (se_var (by rfl) (by first | exact Or.inl rfl | exact Or.inr (Or.inl rfl) | exact Or.inr (Or.inr rfl)))) (sg_name (i := 3) sc_is_lot_below.nd (by rfl) (by first | exact Or.inl rfl | exact Or.inr rfl)) (sss_cons (ss_if (st_not (st_tr (se_call ((fn_is_within x tb).mono (by decide)) hr (takes_of rfl rfl rfl rfl) (by rfl) x.g_is_within x.F_is_within.kp x.b_is_within (san_cons (se_var (by rfl) (by first | exact Or.inl rfl | exact Or.inr (Or.inl rfl) | exact Or.inr (Or.inr rfl))) (san_cons (se_op op_sub ok_sub (se_var (by rfl) (by first | exact Or.inl rfl | exact Or.inr (Or.inl rfl) | exact Or.inr (Or.inr rfl))) (se_int)) (san_cons (se_var (by rfl) (by first | exact Or.inl rfl | exact Or.inr (Or.inl rfl) | exact Or.inr (Or.inr rfl))) (san_nil))))))) (sss_one (ss_ret (se_bl))) (sss_nil)) (sss_one (ss_set (i := 2) sc_is_lot_below.nd (by rfl) (by first | exact Or.inl rfl | exact Or.inr rfl) (se_op (opr_or op_add (opr_or op_add_str (opr_or op_catA op_cat))) (ok_add (fz := true)) (se_var (by rfl) (by first | exact Or.inl rfl | exact Or.inr (Or.inl rfl) | exact Or.inr (Or.inr rfl))) (se_int)))))) (sss_one (ss_ret (se_bl)))))
theorem fn_Disk_force (x : Tx K mg) (tb : x.TB base) : FnM P w K mg base x.T 4 x.a_Disk_force x.d_Disk_force ["self", "lot"] r_Disk_force := fn_ok x.F_Disk_force sc_Disk_force fun cdv A outer s H E hr => sss_cons (ss_if (st_not (st_tr (se_call ((fn_is_lot_below x tb).mono (by decide)) hr (takes_of rfl rfl rfl rfl) (by rfl) x.g_is_lot_below x.F_is_lot_below.kp x.b_is_lot_below (san_cons (se_meth0 (tb := [(0, r_Disk_blocks)]) (se_var (by rfl) (by first | exact Or.inl rfl | exact Or.inr (Or.inl rfl) | exact Or.inr (Or.inr rfl))) (fun p hp => by
      simp only [List.mem_cons, List.not_mem_nil, or_false] at hp
      rcases hp with rfl
      exact ⟨x.cl_Disk, x.a_Disk_blocks, x.d_Disk_blocks, _, x.me_Disk_blocks, (fn_Disk_blocks x tb).mono (by decide), x.b_Disk_blocks, rfl⟩) hr (takes_of rfl rfl rfl rfl)) (san_cons (se_var (by rfl) (by first | exact Or.inl rfl | exact Or.inr (Or.inl rfl) | exact Or.inr (Or.inr rfl))) (san_nil)))))) (sss_one (ss_stk)) (sss_nil)) (sss_one (ss_for (passes_of rfl) rfl (si_tup (se_var (by rfl) (by first | exact Or.inl rfl | exact Or.inr (Or.inl rfl) | exact Or.inr (Or.inr rfl)))) (sg_name (i := 2) sc_Disk_force.nd (by rfl) (by first | exact Or.inl rfl | exact Or.inr rfl)) (sss_one (ss_while (fuel := 1000000) (passes_of rfl) (st_din (hu_of hr) (se_var (by rfl) (by first | exact Or.inl rfl | exact Or.inr (Or.inl rfl) | exact Or.inr (Or.inr rfl))) (se_fld (cs := [0]) (se_var (by rfl) (by first | exact Or.inl rfl | exact Or.inr (Or.inl rfl) | exact Or.inr (Or.inr rfl))) x.f_cached)) (sss_one (ss_expr (se_meth (n := 1) (tb := [(0, r_Disk_let_reach)]) (se_var (by rfl) (by first | exact Or.inl rfl | exact Or.inr (Or.inl rfl) | exact Or.inr (Or.inr rfl))) (fun p hp => by
      simp only [List.mem_cons, List.not_mem_nil, or_false] at hp
      rcases hp with rfl
      exact ⟨x.cl_Disk, x.a_Disk_let_reach, x.d_Disk_let_reach, _, x.me_Disk_let_reach, (fn_Disk_let_reach x tb).mono (by decide), x.b_Disk_let_reach, rfl⟩) hr (takes_of rfl rfl rfl rfl) (san_cons (se_var (by rfl) (by first | exact Or.inl rfl | exact Or.inr (Or.inl rfl) | exact Or.inr (Or.inr rfl))) (san_nil)))))))))
theorem fn_Disk_calm (x : Tx K mg) (tb : x.TB base) : FnM P w K mg base x.T 5 x.a_Disk_calm x.d_Disk_calm ["self"] r_Disk_calm := fn_ok x.F_Disk_calm sc_Disk_calm fun cdv A outer s H E hr => sss_one (ss_expr (se_meth (n := 1) (tb := [(0, r_Disk_force)]) (se_var (by rfl) (by first | exact Or.inl rfl | exact Or.inr (Or.inl rfl) | exact Or.inr (Or.inr rfl))) (fun p hp => by
      simp only [List.mem_cons, List.not_mem_nil, or_false] at hp
      rcases hp with rfl
      exact ⟨x.cl_Disk, x.a_Disk_force, x.d_Disk_force, _, x.me_Disk_force, (fn_Disk_force x tb).mono (by decide), x.b_Disk_force, rfl⟩) hr (takes_of rfl rfl rfl rfl) (san_cons (se_bty call_tuple_of okc_tuple (by rfl) x.z_tuple (by decide +kernel) (SAn.run (san_cons (se_blt (CallR.or cr_sortedI (call_sortedDI rfl)) (okc_sorted (fz := true)) (by rfl) x.z_sorted (by decide +kernel) (SAn.run (san_cons (se_fld (cs := [0]) (se_var (by rfl) (by first | exact Or.inl rfl | exact Or.inr (Or.inl rfl) | exact Or.inr (Or.inr rfl))) x.f_cached) (san_nil)))) (san_nil)))) (san_nil))))
theorem fn_Disk_power (x : Tx K mg) (tb : x.TB base) : FnM P w K mg base x.T 3 x.a_Disk_power x.d_Disk_power ["self", "many"] r_Disk_power := fn_ok x.F_Disk_power sc_Disk_power fun cdv A outer s H E hr => sss_cons (ss_if (st_w (sw_and (st_cmp (opr_or op_notN op_isNotF) ok_isnot (se_var (by rfl) (by first | exact Or.inl rfl | exact Or.inr (Or.inl rfl) | exact Or.inr (Or.inr rfl))) (se_non) (by rfl)) (sw_and1 (st_not (st_tr (se_call ((fn_is_within x tb).mono (by decide)) hr (takes_of rfl rfl rfl rfl) (by rfl) x.g_is_within x.F_is_within.kp x.b_is_within (san_cons (se_int) (san_cons (se_globI (by rfl) x.c_MOST_POWER ⟨_, rfl⟩) (san_cons (se_var (by rfl) (by first | exact Or.inl rfl | exact Or.inr (Or.inl rfl) | exact Or.inr (Or.inr rfl))) (san_nil)))))))))) (sss_one (ss_stk)) (sss_nil)) (sss_one (ss_fld (cs := [0]) (se_var (by rfl) (by first | exact Or.inl rfl | exact Or.inr (Or.inl rfl) | exact Or.inr (Or.inr rfl))) (se_var (by rfl) (by first | exact Or.inl rfl | exact Or.inr (Or.inl rfl) | exact Or.inr (Or.inr rfl))) x.f_left))
theorem fn_law_cut (x : Tx K mg) (tb : x.TB base) : FnM P w K mg base x.T 1 x.a_law_cut x.d_law_cut ["book"] r_law_cut := fn_ok x.F_law_cut sc_law_cut fun cdv A outer s H E hr => sss_one (ss_asg (se_tupA (n := 2) (san_cons (se_dict0) (san_cons (se_non) (san_nil)))) (sg_tup rfl (sgs_cons (sg_sub (hu_of hr) (se_var (by rfl) (by first | exact Or.inl rfl | exact Or.inr (Or.inl rfl) | exact Or.inr (Or.inr rfl))) (se_str)) (sgs_cons (sg_sub (hu_of hr) (se_var (by rfl) (by first | exact Or.inl rfl | exact Or.inr (Or.inl rfl) | exact Or.inr (Or.inr rfl))) (se_str)) (sgs_nil)))))
theorem fn_Disk_cut (x : Tx K mg) (tb : x.TB base) : FnM P w K mg base x.T 1 x.a_Disk_cut x.d_Disk_cut ["self"] r_Disk_cut := fn_ok x.F_Disk_cut sc_Disk_cut fun cdv A outer s H E hr => sss_cons (ss_fld (cs := [0]) (se_var (by rfl) (by first | exact Or.inl rfl | exact Or.inr (Or.inl rfl) | exact Or.inr (Or.inr rfl))) (se_dict0) x.f_cached) (sss_one (ss_fld (cs := [0]) (se_var (by rfl) (by first | exact Or.inl rfl | exact Or.inr (Or.inl rfl) | exact Or.inr (Or.inr rfl))) (se_non) x.f_left))
theorem fn_Disk_reached (x : Tx K mg) (tb : x.TB base) : FnM P w K mg base x.T 1 x.a_Disk_reached x.d_Disk_reached ["self"] r_Disk_reached := fn_ok x.F_Disk_reached sc_Disk_reached fun cdv A outer s H E hr => sss_one (ss_ret (se_fld (cs := [0]) (se_var (by rfl) (by first | exact Or.inl rfl | exact Or.inr (Or.inl rfl) | exact Or.inr (Or.inr rfl))) x.f_arrived))
theorem fn_Disk_waiting (x : Tx K mg) (tb : x.TB base) : FnM P w K mg base x.T 1 x.a_Disk_waiting x.d_Disk_waiting ["self"] r_Disk_waiting := fn_ok x.F_Disk_waiting sc_Disk_waiting fun cdv A outer s H E hr => sss_one (ss_ret (se_dcomp (own := [("block", 1)]) (t := (.one 1)) rfl sc_Disk_waiting.nd (si_list (se_blt (CallR.or cr_sortedI (call_sortedDI rfl)) (okc_sorted (fz := true)) (by rfl) x.z_sorted (by decide +kernel) (SAn.run (san_cons (se_fld (cs := [0]) (se_var (by rfl) (by first | exact Or.inl rfl | exact Or.inr (Or.inl rfl) | exact Or.inr (Or.inr rfl))) x.f_cached) (san_nil))))) (blkOk_by (own := [("block", 1)]) (N := N_Disk_waiting) (sc := (defScope s_Disk_waiting)) (by decide +kernel)) (by decide) (fun _ _ _ _ _ => pg_name (i := 1) sc_Disk_waiting.nd (by rfl) (Or.inl (by rfl))) (.inl ⟨rfl, rfl⟩) (fun _ _ _ _ _ => se_var (by rfl) (by first | exact Or.inl rfl | exact Or.inr (Or.inl rfl) | exact Or.inr (Or.inr rfl))) (fun _ _ _ _ _ => se_blt (CallR.or call_len call_lenD) okc_len (by rfl) x.z_len (by decide +kernel) (SAn.run (san_cons (se_ix (hu_of hr) (se_fld (cs := [0]) (se_var (by rfl) (by first | exact Or.inl rfl | exact Or.inr (Or.inl rfl) | exact Or.inr (Or.inr rfl))) x.f_cached) (se_var (by rfl) (by first | exact Or.inl rfl | exact Or.inr (Or.inl rfl) | exact Or.inr (Or.inr rfl)))) (san_nil))))))
theorem fn_Disk_read (x : Tx K mg) (tb : x.TB base) : FnM P w K mg base x.T 4 x.a_Disk_read x.d_Disk_read ["self", "block"] r_Disk_read := fn_ok x.F_Disk_read sc_Disk_read fun cdv A outer s H E hr => sss_cons (ss_expr (se_meth (n := 1) (tb := [(0, r_Disk_demand_block)]) (se_var (by rfl) (by first | exact Or.inl rfl | exact Or.inr (Or.inl rfl) | exact Or.inr (Or.inr rfl))) (fun p hp => by
      simp only [List.mem_cons, List.not_mem_nil, or_false] at hp
      rcases hp with rfl
      exact ⟨x.cl_Disk, x.a_Disk_demand_block, x.d_Disk_demand_block, _, x.me_Disk_demand_block, (fn_Disk_demand_block x tb).mono (by decide), x.b_Disk_demand_block, rfl⟩) hr (takes_of rfl rfl rfl rfl) (san_cons (se_var (by rfl) (by first | exact Or.inl rfl | exact Or.inr (Or.inl rfl) | exact Or.inr (Or.inr rfl))) (san_nil)))) (sss_cons (ss_if (st_din (hu_of hr) (se_var (by rfl) (by first | exact Or.inl rfl | exact Or.inr (Or.inl rfl) | exact Or.inr (Or.inr rfl))) (se_fld (cs := [0]) (se_var (by rfl) (by first | exact Or.inl rfl | exact Or.inr (Or.inl rfl) | exact Or.inr (Or.inr rfl))) x.f_cached)) (sss_one (ss_ret (se_ix (hu_of hr) (se_ix (hu_of hr) (se_fld (cs := [0]) (se_var (by rfl) (by first | exact Or.inl rfl | exact Or.inr (Or.inl rfl) | exact Or.inr (Or.inr rfl))) x.f_cached) (se_var (by rfl) (by first | exact Or.inl rfl | exact Or.inr (Or.inl rfl) | exact Or.inr (Or.inr rfl)))) (se_neg (se_int))))) (sss_nil)) (sss_one (ss_ret (se_ix (hu_of hr) (se_fld (cs := [0]) (se_var (by rfl) (by first | exact Or.inl rfl | exact Or.inr (Or.inl rfl) | exact Or.inr (Or.inr rfl))) x.f_contents) (se_var (by rfl) (by first | exact Or.inl rfl | exact Or.inr (Or.inl rfl) | exact Or.inr (Or.inr rfl)))))))
theorem fn_Disk_lying (x : Tx K mg) (tb : x.TB base) : FnM P w K mg base x.T 4 x.a_Disk_lying x.d_Disk_lying ["self", "block"] r_Disk_lying := fn_ok x.F_Disk_lying sc_Disk_lying fun cdv A outer s H E hr => sss_cons (ss_expr (se_meth (n := 1) (tb := [(0, r_Disk_demand_block)]) (se_var (by rfl) (by first | exact Or.inl rfl | exact Or.inr (Or.inl rfl) | exact Or.inr (Or.inr rfl))) (fun p hp => by
      simp only [List.mem_cons, List.not_mem_nil, or_false] at hp
      rcases hp with rfl
      exact ⟨x.cl_Disk, x.a_Disk_demand_block, x.d_Disk_demand_block, _, x.me_Disk_demand_block, (fn_Disk_demand_block x tb).mono (by decide), x.b_Disk_demand_block, rfl⟩) hr (takes_of rfl rfl rfl rfl) (san_cons (se_var (by rfl) (by first | exact Or.inl rfl | exact Or.inr (Or.inl rfl) | exact Or.inr (Or.inr rfl))) (san_nil)))) (sss_one (ss_ret (se_ix (hu_of hr) (se_fld (cs := [0]) (se_var (by rfl) (by first | exact Or.inl rfl | exact Or.inr (Or.inl rfl) | exact Or.inr (Or.inr rfl))) x.f_contents) (se_var (by rfl) (by first | exact Or.inl rfl | exact Or.inr (Or.inl rfl) | exact Or.inr (Or.inr rfl))))))
theorem fn_law_shows (x : Tx K mg) (tb : x.TB base) : FnM P w K mg base x.T 5 x.a_law_shows x.d_law_shows ["disk", "book", "some"] r_law_shows := fn_ok x.F_law_shows sc_law_shows fun cdv A outer s H E hr => sss_cons (ss_if (st_w (sw_or (st_cmp (opr_or op_ne (op_neD hr.units)) ok_ne (se_meth0 (tb := [(0, r_Disk_blocks)]) (se_var (by rfl) (by first | exact Or.inl rfl | exact Or.inr (Or.inl rfl) | exact Or.inr (Or.inr rfl))) (fun p hp => by
      simp only [List.mem_cons, List.not_mem_nil, or_false] at hp
      rcases hp with rfl
      exact ⟨x.cl_Disk, x.a_Disk_blocks, x.d_Disk_blocks, _, x.me_Disk_blocks, (fn_Disk_blocks x tb).mono (by decide), x.b_Disk_blocks, rfl⟩) hr (takes_of rfl rfl rfl rfl)) (se_blt (CallR.or call_len call_lenD) okc_len (by rfl) x.z_len (by decide +kernel) (SAn.run (san_cons (se_ix (hu_of hr) (se_var (by rfl) (by first | exact Or.inl rfl | exact Or.inr (Or.inl rfl) | exact Or.inr (Or.inr rfl))) (se_str)) (san_nil)))) (by rfl)) (sw_or1 (st_cmp (opr_or op_ne (op_neD hr.units)) ok_ne (se_meth0 (tb := [(0, r_Disk_reached)]) (se_var (by rfl) (by first | exact Or.inl rfl | exact Or.inr (Or.inl rfl) | exact Or.inr (Or.inr rfl))) (fun p hp => by
      simp only [List.mem_cons, List.not_mem_nil, or_false] at hp
      rcases hp with rfl
      exact ⟨x.cl_Disk, x.a_Disk_reached, x.d_Disk_reached, _, x.me_Disk_reached, (fn_Disk_reached x tb).mono (by decide), x.b_Disk_reached, rfl⟩) hr (takes_of rfl rfl rfl rfl)) (se_ix (hu_of hr) (se_var (by rfl) (by first | exact Or.inl rfl | exact Or.inr (Or.inl rfl) | exact Or.inr (Or.inr rfl))) (se_str)) (by rfl))))) (sss_one (ss_ret (se_bl))) (sss_nil)) (sss_cons (ss_if (st_cmp (op_ne_dictA hr.units0) ok_neD (se_meth0 (tb := [(0, r_Disk_waiting)]) (se_var (by rfl) (by first | exact Or.inl rfl | exact Or.inr (Or.inl rfl) | exact Or.inr (Or.inr rfl))) (fun p hp => by
      simp only [List.mem_cons, List.not_mem_nil, or_false] at hp
      rcases hp with rfl
      exact ⟨x.cl_Disk, x.a_Disk_waiting, x.d_Disk_waiting, _, x.me_Disk_waiting, (fn_Disk_waiting x tb).mono (by decide), x.b_Disk_waiting, rfl⟩) hr (takes_of rfl rfl rfl rfl)) (se_bty (CallR.or (call_dictP rfl) call_dictD) okc_dict (by rfl) x.z_dict (by decide +kernel) (SAn.run (san_cons (se_lock (se_comp (fz := true) (own := [("block", 3), ("row", 5)]) (t := (.tup [3, 5])) rfl sc_law_shows.nd (si_items (se_ix (hu_of hr) (se_var (by rfl) (by first | exact Or.inl rfl | exact Or.inr (Or.inl rfl) | exact Or.inr (Or.inr rfl))) (se_str))) (blkOk_by (own := [("block", 3), ("row", 5)]) (N := N_law_shows) (sc := (defScope s_law_shows)) (by decide +kernel)) (by decide) (fun _ _ _ _ _ => pg_tup rfl (pgs_cons (pg_name (i := 3) sc_law_shows.nd (by rfl) (Or.inl (by rfl))) (pgs_cons (pg_name (i := 5) sc_law_shows.nd (by rfl) (Or.inl (by rfl))) (pgs_nil)))) (.inl ⟨rfl, rfl⟩) (fun _ _ _ _ _ => se_tupA (n := 2) (san_cons (se_var (by rfl) (by first | exact Or.inl rfl | exact Or.inr (Or.inl rfl) | exact Or.inr (Or.inr rfl))) (san_cons (se_blt (CallR.or call_len call_lenD) okc_len (by rfl) x.z_len (by decide +kernel) (SAn.run (san_cons (se_var (by rfl) (by first | exact Or.inl rfl | exact Or.inr (Or.inl rfl) | exact Or.inr (Or.inr rfl))) (san_nil)))) (san_nil)))))) (san_nil)))) (by rfl)) (sss_one (ss_ret (se_bl))) (sss_nil)) (sss_cons (ss_for (passes_of rfl) rfl (si_list (se_var (by rfl) (by first | exact Or.inl rfl | exact Or.inr (Or.inl rfl) | exact Or.inr (Or.inr rfl)))) (sg_name (i := 3) sc_law_shows.nd (by rfl) (by first | exact Or.inl rfl | exact Or.inr rfl)) (sss_cons (ss_set (i := 4) sc_law_shows.nd (by rfl) (by first | exact Or.inl rfl | exact Or.inr rfl) (se_ifx (st_din (hu_of hr) (se_var (by rfl) (by first | exact Or.inl rfl | exact Or.inr (Or.inl rfl) | exact Or.inr (Or.inr rfl))) (se_ix (hu_of hr) (se_var (by rfl) (by first | exact Or.inl rfl | exact Or.inr (Or.inl rfl) | exact Or.inr (Or.inr rfl))) (se_str))) (se_ix (hu_of hr) (se_ix (hu_of hr) (se_ix (hu_of hr) (se_var (by rfl) (by first | exact Or.inl rfl | exact Or.inr (Or.inl rfl) | exact Or.inr (Or.inr rfl))) (se_str)) (se_var (by rfl) (by first | exact Or.inl rfl | exact Or.inr (Or.inl rfl) | exact Or.inr (Or.inr rfl)))) (se_neg (se_int))) (se_ix (hu_of hr) (se_ix (hu_of hr) (se_var (by rfl) (by first | exact Or.inl rfl | exact Or.inr (Or.inl rfl) | exact Or.inr (Or.inr rfl))) (se_str)) (se_var (by rfl) (by first | exact Or.inl rfl | exact Or.inr (Or.inl rfl) | exact Or.inr (Or.inr rfl)))))) (sss_one (ss_if (st_w (sw_or (st_cmp (opr_or op_ne (op_neD hr.units)) ok_ne (se_meth (n := 1) (tb := [(0, r_Disk_read)]) (se_var (by rfl) (by first | exact Or.inl rfl | exact Or.inr (Or.inl rfl) | exact Or.inr (Or.inr rfl))) (fun p hp => by
      simp only [List.mem_cons, List.not_mem_nil, or_false] at hp
      rcases hp with rfl
      exact ⟨x.cl_Disk, x.a_Disk_read, x.d_Disk_read, _, x.me_Disk_read, (fn_Disk_read x tb).mono (by decide), x.b_Disk_read, rfl⟩) hr (takes_of rfl rfl rfl rfl) (san_cons (se_var (by rfl) (by first | exact Or.inl rfl | exact Or.inr (Or.inl rfl) | exact Or.inr (Or.inr rfl))) (san_nil))) (se_var (by rfl) (by first | exact Or.inl rfl | exact Or.inr (Or.inl rfl) | exact Or.inr (Or.inr rfl))) (by rfl)) (sw_or1 (st_cmp (opr_or op_ne (op_neD hr.units)) ok_ne (se_meth (n := 1) (tb := [(0, r_Disk_lying)]) (se_var (by rfl) (by first | exact Or.inl rfl | exact Or.inr (Or.inl rfl) | exact Or.inr (Or.inr rfl))) (fun p hp => by
      simp only [List.mem_cons, List.not_mem_nil, or_false] at hp
      rcases hp with rfl
      exact ⟨x.cl_Disk, x.a_Disk_lying, x.d_Disk_lying, _, x.me_Disk_lying, (fn_Disk_lying x tb).mono (by decide), x.b_Disk_lying, rfl⟩) hr (takes_of rfl rfl rfl rfl) (san_cons (se_var (by rfl) (by first | exact Or.inl rfl | exact Or.inr (Or.inl rfl) | exact Or.inr (Or.inr rfl))) (san_nil))) (se_ix (hu_of hr) (se_ix (hu_of hr) (se_var (by rfl) (by first | exact Or.inl rfl | exact Or.inr (Or.inl rfl) | exact Or.inr (Or.inr rfl))) (se_str)) (se_var (by rfl) (by first | exact Or.inl rfl | exact Or.inr (Or.inl rfl) | exact Or.inr (Or.inr rfl)))) (by rfl))))) (sss_one (ss_ret (se_bl))) (sss_nil))))) (sss_one (ss_ret (se_bl)))))
theorem fn_law_deed (x : Tx K mg) (tb : x.TB base) : FnM P w K mg base x.T 9 x.a_law_deed x.d_law_deed ["hand", "disk", "book", "some"] r_law_deed := fn_okL x.L_law_deed sc_law_deed fun A outer s H E hr => sss_cons (ss_asg (se_tupA (n := 2) (san_cons (se_call ((fn_law_draw x tb).mono (by decide)) hr (takes_of rfl rfl rfl rfl) (by rfl) x.g_law_draw x.F_law_draw.kp x.b_law_draw (san_cons (se_var (by rfl) (by first | exact Or.inl rfl | exact Or.inr (Or.inl rfl) | exact Or.inr (Or.inr rfl))) (san_cons (se_int) (san_nil)))) (san_cons (se_call ((fn_law_any x tb).mono (by decide)) hr (takes_of rfl rfl rfl rfl) (by rfl) x.g_law_any x.F_law_any.kp x.b_law_any (san_cons (se_var (by rfl) (by first | exact Or.inl rfl | exact Or.inr (Or.inl rfl) | exact Or.inr (Or.inr rfl))) (san_cons (se_var (by rfl) (by first | exact Or.inl rfl | exact Or.inr (Or.inl rfl) | exact Or.inr (Or.inr rfl))) (san_nil)))) (san_nil)))) (sg_tup rfl (sgs_cons (sg_name (i := 4) sc_law_deed.nd (by rfl) (by first | exact Or.inl rfl | exact Or.inr rfl)) (sgs_cons (sg_name (i := 5) sc_law_deed.nd (by rfl) (by first | exact Or.inl rfl | exact Or.inr rfl)) (sgs_nil))))) (sss_cons (ss_if (st_cmp (opr_or op_lt op_lt_str) ok_cmpS (se_var (by rfl) (by first | exact Or.inl rfl | exact Or.inr (Or.inl rfl) | exact Or.inr (Or.inr rfl))) (se_int) (by rfl)) (sss_cons (ss_set (i := 6) sc_law_deed.nd (by rfl) (by first | exact Or.inl rfl | exact Or.inr rfl) (se_call ((fn_law_content x tb).mono (by decide)) hr (takes_of rfl rfl rfl rfl) (by rfl) x.g_law_content x.F_law_content.kp x.b_law_content (san_cons (se_var (by rfl) (by first | exact Or.inl rfl | exact Or.inr (Or.inl rfl) | exact Or.inr (Or.inr rfl))) (san_nil)))) (sss_cons (ss_expr (se_call ((fn_law_wrote x tb).mono (by decide)) hr (takes_of rfl rfl rfl rfl) (by rfl) x.g_law_wrote x.F_law_wrote.kp x.b_law_wrote (san_cons (se_var (by rfl) (by first | exact Or.inl rfl | exact Or.inr (Or.inl rfl) | exact Or.inr (Or.inr rfl))) (san_cons (se_var (by rfl) (by first | exact Or.inl rfl | exact Or.inr (Or.inl rfl) | exact Or.inr (Or.inr rfl))) (san_cons (se_var (by rfl) (by first | exact Or.inl rfl | exact Or.inr (Or.inl rfl) | exact Or.inr (Or.inr rfl))) (san_nil)))))) (sss_one (ss_ret (se_cmp (opr_or op_isN op_isF) ok_is (se_lamcall (k := 6) (j := 0) (n := 2) (Ng := N_law_word) x.F_law_word (by rfl) x.g_law_word x.b_law_word sc_law_word (by rfl) (by rfl) (by first | exact Or.inl rfl | exact Or.inr (Or.inl rfl)) (x.tab_law_deed tb) rfl rfl (by rfl) (Room.mono hr (by decide)) (LamX.lamS_by (by show LamX.lamSB (defScope s_law_deed) _ = true; decide +kernel)) (by rfl) (fun _ _ _ _ _ => rfl) (fun A outer s G E f c' hr => se_meth (n := 2) (tb := [(0, r_Disk_write)]) (se_var (by rfl) (by first | exact Or.inl rfl | exact Or.inr (Or.inl rfl) | exact Or.inr (Or.inr rfl))) (fun p hp => by
      simp only [List.mem_cons, List.not_mem_nil, or_false] at hp
      rcases hp with rfl
      exact ⟨x.cl_Disk, x.a_Disk_write, x.d_Disk_write, _, x.me_Disk_write, (fn_Disk_write x tb).mono (by decide), x.b_Disk_write, rfl⟩) hr (takes_of rfl rfl rfl rfl) (san_cons (se_var (by rfl) (by first | exact Or.inl rfl | exact Or.inr (Or.inl rfl) | exact Or.inr (Or.inr rfl))) (san_cons (se_var (by rfl) (by first | exact Or.inl rfl | exact Or.inr (Or.inl rfl) | exact Or.inr (Or.inr rfl))) (san_nil)))) (fun cdv s G hr F cl hc => gv_law_word x tb cdv s G (Room.mono hr (by decide)) F cl hc) pr_law_word) (se_non) (by rfl)))))) (sss_nil)) (sss_cons (ss_if (st_cmp (opr_or op_lt op_lt_str) ok_cmpS (se_var (by rfl) (by first | exact Or.inl rfl | exact Or.inr (Or.inl rfl) | exact Or.inr (Or.inr rfl))) (se_int) (by rfl)) (sss_cons (ss_set (i := 7) sc_law_deed.nd (by rfl) (by first | exact Or.inl rfl | exact Or.inr rfl) (se_str)) (sss_cons (ss_if (st_din (hu_of hr) (se_var (by rfl) (by first | exact Or.inl rfl | exact Or.inr (Or.inl rfl) | exact Or.inr (Or.inr rfl))) (se_ix (hu_of hr) (se_var (by rfl) (by first | exact Or.inl rfl | exact Or.inr (Or.inl rfl) | exact Or.inr (Or.inr rfl))) (se_str))) (sss_one (ss_set (i := 7) sc_law_deed.nd (by rfl) (by first | exact Or.inl rfl | exact Or.inr rfl) (se_ifx (st_tr (se_call ((fn_law_reached x tb).mono (by decide)) hr (takes_of rfl rfl rfl rfl) (by rfl) x.g_law_reached x.F_law_reached.kp x.b_law_reached (san_cons (se_var (by rfl) (by first | exact Or.inl rfl | exact Or.inr (Or.inl rfl) | exact Or.inr (Or.inr rfl))) (san_cons (se_var (by rfl) (by first | exact Or.inl rfl | exact Or.inr (Or.inl rfl) | exact Or.inr (Or.inr rfl))) (san_nil))))) (se_non) (se_str)))) (sss_nil)) (sss_one (ss_set (i := 8) sc_law_deed.nd (by rfl) (by first | exact Or.inl rfl | exact Or.inr rfl) (se_lamcall (k := 4) (j := 0) (n := 2) (Ng := N_law_word) x.F_law_word (by rfl) x.g_law_word x.b_law_word sc_law_word (by rfl) (by rfl) (by first | exact Or.inl rfl | exact Or.inr (Or.inl rfl)) (x.tab_law_deed tb) rfl rfl (by rfl) (Room.mono hr (by decide)) (LamX.lamS_by (by show LamX.lamSB (defScope s_law_deed) _ = true; decide +kernel)) (by rfl) (fun _ _ _ _ _ => rfl) (fun A outer s G E f c' hr => se_meth (n := 1) (tb := [(0, r_Disk_reach)]) (se_var (by rfl) (by first | exact Or.inl rfl | exact Or.inr (Or.inl rfl) | exact Or.inr (Or.inr rfl))) (fun p hp => by
      simp only [List.mem_cons, List.not_mem_nil, or_false] at hp
      rcases hp with rfl
      exact ⟨x.cl_Disk, x.a_Disk_reach, x.d_Disk_reach, _, x.me_Disk_reach, (fn_Disk_reach x tb).mono (by decide), x.b_Disk_reach, rfl⟩) hr (takes_of rfl rfl rfl rfl) (san_cons (se_var (by rfl) (by first | exact Or.inl rfl | exact Or.inr (Or.inl rfl) | exact Or.inr (Or.inr rfl))) (san_nil))) (fun cdv s G hr F cl hc => gv_law_word x tb cdv s G (Room.mono hr (by decide)) F cl hc) pr_law_word))))) (sss_one (ss_if (st_cmp (opr_or op_lt op_lt_str) ok_cmpS (se_var (by rfl) (by first | exact Or.inl rfl | exact Or.inr (Or.inl rfl) | exact Or.inr (Or.inr rfl))) (se_int) (by rfl)) (sss_cons (ss_set (i := 9) sc_law_deed.nd (by rfl) (by first | exact Or.inl rfl | exact Or.inr rfl) (se_bty call_tuple_of okc_tuple (by rfl) x.z_tuple (by decide +kernel) (SAn.run (san_cons (se_sortset (fz := true) rfl (by rfl) x.z_sorted (by decide +kernel) (by rfl) x.z_set (by decide +kernel) (se_comp (fz := true) (own := [("turn", 10)]) (t := (.one 10)) rfl sc_law_deed.nd (si_range1 (by rfl) x.z_range (SAn.run (san_cons (se_call ((fn_law_draw x tb).mono (by decide)) hr (takes_of rfl rfl rfl rfl) (by rfl) x.g_law_draw x.F_law_draw.kp x.b_law_draw (san_cons (se_var (by rfl) (by first | exact Or.inl rfl | exact Or.inr (Or.inl rfl) | exact Or.inr (Or.inr rfl))) (san_cons (se_int) (san_nil)))) (san_nil)))) (blkOk_by (own := [("turn", 10)]) (N := N_law_deed) (sc := (defScope s_law_deed)) (by decide +kernel)) (by decide) (fun _ _ _ _ _ => pg_name (i := 10) sc_law_deed.nd (by rfl) (Or.inl (by rfl))) (.inl ⟨rfl, rfl⟩) (fun _ _ _ _ _ => se_call ((fn_law_any x tb).mono (by decide)) hr takes0 (by rfl) x.g_law_any x.F_law_any.kp x.b_law_any (san_cons (se_var (by rfl) (by first | exact Or.inl rfl | exact Or.inr (Or.inl rfl) | exact Or.inr (Or.inr rfl))) (san_cons (se_var (by rfl) (by first | exact Or.inl rfl | exact Or.inr (Or.inl rfl) | exact Or.inr (Or.inr rfl))) (san_nil)))))) (san_nil))))) (sss_cons (ss_set (i := 7) sc_law_deed.nd (by rfl) (by first | exact Or.inl rfl | exact Or.inr rfl) (se_ifx (st_tr (se_call ((fn_law_forced x tb).mono (by decide)) hr (takes_of rfl rfl rfl rfl) (by rfl) x.g_law_forced x.F_law_forced.kp x.b_law_forced (san_cons (se_var (by rfl) (by first | exact Or.inl rfl | exact Or.inr (Or.inl rfl) | exact Or.inr (Or.inr rfl))) (san_cons (se_var (by rfl) (by first | exact Or.inl rfl | exact Or.inr (Or.inl rfl) | exact Or.inr (Or.inr rfl))) (san_nil))))) (se_non) (se_str))) (sss_one (ss_set (i := 8) sc_law_deed.nd (by rfl) (by first | exact Or.inl rfl | exact Or.inr rfl) (se_lamcall (k := 4) (j := 0) (n := 2) (Ng := N_law_word) x.F_law_word (by rfl) x.g_law_word x.b_law_word sc_law_word (by rfl) (by rfl) (by first | exact Or.inl rfl | exact Or.inr (Or.inl rfl)) (x.tab_law_deed tb) rfl rfl (by rfl) (Room.mono hr (by decide)) (LamX.lamS_by (by show LamX.lamSB (defScope s_law_deed) _ = true; decide +kernel)) (by rfl) (fun _ _ _ _ _ => rfl) (fun A outer s G E f c' hr => se_meth (n := 1) (tb := [(0, r_Disk_force)]) (se_var (by rfl) (by first | exact Or.inl rfl | exact Or.inr (Or.inl rfl) | exact Or.inr (Or.inr rfl))) (fun p hp => by
      simp only [List.mem_cons, List.not_mem_nil, or_false] at hp
      rcases hp with rfl
      exact ⟨x.cl_Disk, x.a_Disk_force, x.d_Disk_force, _, x.me_Disk_force, (fn_Disk_force x tb).mono (by decide), x.b_Disk_force, rfl⟩) hr (takes_of rfl rfl rfl rfl) (san_cons (se_var (by rfl) (by first | exact Or.inl rfl | exact Or.inr (Or.inl rfl) | exact Or.inr (Or.inr rfl))) (san_nil))) (fun cdv s G hr F cl hc => gv_law_word x tb cdv s G (Room.mono hr (by decide)) F cl hc) pr_law_word))))) (sss_one (ss_if (st_cmp (opr_or op_eq (op_eqD hr.units)) ok_eq (se_var (by rfl) (by first | exact Or.inl rfl | exact Or.inr (Or.inl rfl) | exact Or.inr (Or.inr rfl))) (se_int) (by rfl)) (sss_cons (ss_set (i := 7) sc_law_deed.nd (by rfl) (by first | exact Or.inl rfl | exact Or.inr rfl) (se_ifx (st_tr (se_call ((fn_law_forced x tb).mono (by decide)) hr (takes_of rfl rfl rfl rfl) (by rfl) x.g_law_forced x.F_law_forced.kp x.b_law_forced (san_cons (se_var (by rfl) (by first | exact Or.inl rfl | exact Or.inr (Or.inl rfl) | exact Or.inr (Or.inr rfl))) (san_cons (se_blt (CallR.or cr_sortedI (call_sortedDI rfl)) (okc_sorted (fz := true)) (by rfl) x.z_sorted (by decide +kernel) (SAn.run (san_cons (se_ix (hu_of hr) (se_var (by rfl) (by first | exact Or.inl rfl | exact Or.inr (Or.inl rfl) | exact Or.inr (Or.inr rfl))) (se_str)) (san_nil)))) (san_nil))))) (se_non) (se_str))) (sss_one (ss_set (i := 8) sc_law_deed.nd (by rfl) (by first | exact Or.inl rfl | exact Or.inr rfl) (se_lamcall (k := 5) (j := 0) (n := 2) (Ng := N_law_word) x.F_law_word (by rfl) x.g_law_word x.b_law_word sc_law_word (by rfl) (by rfl) (by first | exact Or.inl rfl | exact Or.inr (Or.inl rfl)) (x.tab_law_deed tb) rfl rfl (by rfl) (Room.mono hr (by decide)) (LamX.lamS_by (by show LamX.lamSB (defScope s_law_deed) _ = true; decide +kernel)) (by rfl) (fun _ _ _ _ _ => rfl) (fun A outer s G E f c' hr => se_meth0 (tb := [(0, r_Disk_calm)]) (se_var (by rfl) (by first | exact Or.inl rfl | exact Or.inr (Or.inl rfl) | exact Or.inr (Or.inr rfl))) (fun p hp => by
      simp only [List.mem_cons, List.not_mem_nil, or_false] at hp
      rcases hp with rfl
      exact ⟨x.cl_Disk, x.a_Disk_calm, x.d_Disk_calm, _, x.me_Disk_calm, (fn_Disk_calm x tb).mono (by decide), x.b_Disk_calm, rfl⟩) hr (takes_of rfl rfl rfl rfl)) (fun cdv s G hr F cl hc => gv_law_word x tb cdv s G (Room.mono hr (by decide)) F cl hc) pr_law_word)))) (sss_one (ss_if (st_cmp (opr_or op_lt op_lt_str) ok_cmpS (se_var (by rfl) (by first | exact Or.inl rfl | exact Or.inr (Or.inl rfl) | exact Or.inr (Or.inr rfl))) (se_int) (by rfl)) (sss_cons (ss_asg (se_call ((fn_law_any x tb).mono (by decide)) hr (takes_of rfl rfl rfl rfl) (by rfl) x.g_law_any x.F_law_any.kp x.b_law_any (san_cons (se_var (by rfl) (by first | exact Or.inl rfl | exact Or.inr (Or.inl rfl) | exact Or.inr (Or.inr rfl))) (san_cons (se_lstA (fz := true) (n := 7) (san_cons (se_non) (san_cons (se_int) (san_cons (se_int) (san_cons (se_int) (san_cons (se_int) (san_cons (se_int) (san_cons (se_op op_pow ok_pow (se_int) (se_int)) (san_nil))))))))) (san_nil)))) (sg_sub (hu_of hr) (se_var (by rfl) (by first | exact Or.inl rfl | exact Or.inr (Or.inl rfl) | exact Or.inr (Or.inr rfl))) (se_str))) (sss_one (ss_par rfl sc_law_deed.nd (by rfl) (by rfl) (by decide) (by rfl) (by rfl) (se_non) (se_lamcall (k := 3) (j := 0) (n := 2) (Ng := N_law_word) x.F_law_word (by rfl) x.g_law_word x.b_law_word sc_law_word (by rfl) (by rfl) (by first | exact Or.inl rfl | exact Or.inr (Or.inl rfl)) (x.tab_law_deed tb) rfl rfl (by rfl) (Room.mono hr (by decide)) (LamX.lamS_by (by show LamX.lamSB (defScope s_law_deed) _ = true; decide +kernel)) (by rfl) (fun _ _ _ _ _ => rfl) (fun A outer s G E f c' hr => se_meth (n := 1) (tb := [(0, r_Disk_power)]) (se_var (by rfl) (by first | exact Or.inl rfl | exact Or.inr (Or.inl rfl) | exact Or.inr (Or.inr rfl))) (fun p hp => by
      simp only [List.mem_cons, List.not_mem_nil, or_false] at hp
      rcases hp with rfl
      exact ⟨x.cl_Disk, x.a_Disk_power, x.d_Disk_power, _, x.me_Disk_power, (fn_Disk_power x tb).mono (by decide), x.b_Disk_power, rfl⟩) hr (takes_of rfl rfl rfl rfl) (san_cons (se_ix (hu_of hr) (se_var (by rfl) (by first | exact Or.inl rfl | exact Or.inr (Or.inl rfl) | exact Or.inr (Or.inr rfl))) (se_str)) (san_nil))) (fun cdv s G hr F cl hc => gv_law_word x tb cdv s G (Room.mono hr (by decide)) F cl hc) pr_law_word) (by rfl)))) (sss_cons (ss_expr (se_call ((fn_law_cut x tb).mono (by decide)) hr (takes_of rfl rfl rfl rfl) (by rfl) x.g_law_cut x.F_law_cut.kp x.b_law_cut (san_cons (se_var (by rfl) (by first | exact Or.inl rfl | exact Or.inr (Or.inl rfl) | exact Or.inr (Or.inr rfl))) (san_nil)))) (sss_one (ss_par rfl sc_law_deed.nd (by rfl) (by rfl) (by decide) (by rfl) (by rfl) (se_non) (se_lamcall (k := 1) (j := 0) (n := 2) (Ng := N_law_word) x.F_law_word (by rfl) x.g_law_word x.b_law_word sc_law_word (by rfl) (by rfl) (by first | exact Or.inl rfl | exact Or.inr (Or.inl rfl)) (x.tab_law_deed tb) rfl rfl (by rfl) (Room.mono hr (by decide)) (LamX.lamS_by (by show LamX.lamSB (defScope s_law_deed) _ = true; decide +kernel)) (by rfl) (fun _ _ _ _ _ => rfl) (fun A outer s G E f c' hr => se_meth0 (tb := [(0, r_Disk_cut)]) (se_var (by rfl) (by first | exact Or.inl rfl | exact Or.inr (Or.inl rfl) | exact Or.inr (Or.inr rfl))) (fun p hp => by
      simp only [List.mem_cons, List.not_mem_nil, or_false] at hp
      rcases hp with rfl
      exact ⟨x.cl_Disk, x.a_Disk_cut, x.d_Disk_cut, _, x.me_Disk_cut, (fn_Disk_cut x tb).mono (by decide), x.b_Disk_cut, rfl⟩) hr (takes_of rfl rfl rfl rfl)) (fun cdv s G hr F cl hc => gv_law_word x tb cdv s G (Room.mono hr (by decide)) F cl hc) pr_law_word) (by rfl))))))))))) (sss_cons (ss_if (st_w (sw_and (st_cmp (opr_or op_eq (op_eqD hr.units)) ok_eq (se_var (by rfl) (by first | exact Or.inl rfl | exact Or.inr (Or.inl rfl) | exact Or.inr (Or.inr rfl))) (se_str) (by rfl)) (sw_and1 (st_cmp (opr_or op_eq (op_eqD hr.units)) ok_eq (se_var (by rfl) (by first | exact Or.inl rfl | exact Or.inr (Or.inl rfl) | exact Or.inr (Or.inr rfl))) (se_str) (by rfl))))) (sss_cons (ss_if (st_not (st_tr (se_call ((fn_law_shows x tb).mono (by decide)) hr (takes_of rfl rfl rfl rfl) (by rfl) x.g_law_shows x.F_law_shows.kp x.b_law_shows (san_cons (se_var (by rfl) (by first | exact Or.inl rfl | exact Or.inr (Or.inl rfl) | exact Or.inr (Or.inr rfl))) (san_cons (se_var (by rfl) (by first | exact Or.inl rfl | exact Or.inr (Or.inl rfl) | exact Or.inr (Or.inr rfl))) (san_cons (se_var (by rfl) (by first | exact Or.inl rfl | exact Or.inr (Or.inl rfl) | exact Or.inr (Or.inr rfl))) (san_nil))))))) (sss_one (ss_ret (se_bl))) (sss_nil)) (sss_cons (ss_expr (se_call ((fn_law_cut x tb).mono (by decide)) hr (takes_of rfl rfl rfl rfl) (by rfl) x.g_law_cut x.F_law_cut.kp x.b_law_cut (san_cons (se_var (by rfl) (by first | exact Or.inl rfl | exact Or.inr (Or.inl rfl) | exact Or.inr (Or.inr rfl))) (san_nil)))) (sss_one (ss_ret (se_cmp (opr_or op_isN op_isF) ok_is (se_lamcall (k := 1) (j := 0) (n := 2) (Ng := N_law_word) x.F_law_word (by rfl) x.g_law_word x.b_law_word sc_law_word (by rfl) (by rfl) (by first | exact Or.inl rfl | exact Or.inr (Or.inl rfl)) (x.tab_law_deed tb) rfl rfl (by rfl) (Room.mono hr (by decide)) (LamX.lamS_by (by show LamX.lamSB (defScope s_law_deed) _ = true; decide +kernel)) (by rfl) (fun _ _ _ _ _ => rfl) (fun A outer s G E f c' hr => se_meth0 (tb := [(0, r_Disk_cut)]) (se_var (by rfl) (by first | exact Or.inl rfl | exact Or.inr (Or.inl rfl) | exact Or.inr (Or.inr rfl))) (fun p hp => by
      simp only [List.mem_cons, List.not_mem_nil, or_false] at hp
      rcases hp with rfl
      exact ⟨x.cl_Disk, x.a_Disk_cut, x.d_Disk_cut, _, x.me_Disk_cut, (fn_Disk_cut x tb).mono (by decide), x.b_Disk_cut, rfl⟩) hr (takes_of rfl rfl rfl rfl)) (fun cdv s G hr F cl hc => gv_law_word x tb cdv s G (Room.mono hr (by decide)) F cl hc) pr_law_word) (se_non) (by rfl)))))) (sss_nil)) (sss_one (ss_ret (se_cmp (opr_or op_eq (op_eqD hr.units)) ok_eq (se_var (by rfl) (by first | exact Or.inl rfl | exact Or.inr (Or.inl rfl) | exact Or.inr (Or.inr rfl))) (se_var (by rfl) (by first | exact Or.inl rfl | exact Or.inr (Or.inl rfl) | exact Or.inr (Or.inr rfl))) (by rfl)))))))
theorem fn_Disk_copy (x : Tx K mg) (tb : x.TB base) : FnM P w K mg base x.T 5 x.a_Disk_copy x.d_Disk_copy ["self"] r_Disk_copy := fn_ok x.F_Disk_copy sc_Disk_copy fun cdv A outer s H E hr => sss_cons (ss_set (i := 1) sc_Disk_copy.nd (by rfl) (by first | exact Or.inl rfl | exact Or.inr rfl) (se_make (c := 0) x.M_Disk ((fn_Disk_init x tb).mono (by decide)) hr (takes_of rfl rfl rfl rfl) (by rfl) x.gC_Disk x.b_Disk_init (n := 1) rfl (san_cons (se_meth0 (tb := [(0, r_Disk_blocks)]) (se_var (by rfl) (by first | exact Or.inl rfl | exact Or.inr (Or.inl rfl) | exact Or.inr (Or.inr rfl))) (fun p hp => by
      simp only [List.mem_cons, List.not_mem_nil, or_false] at hp
      rcases hp with rfl
      exact ⟨x.cl_Disk, x.a_Disk_blocks, x.d_Disk_blocks, _, x.me_Disk_blocks, (fn_Disk_blocks x tb).mono (by decide), x.b_Disk_blocks, rfl⟩) hr (takes_of rfl rfl rfl rfl)) (san_nil)))) (sss_cons (ss_fld (cs := [0]) (se_var (by rfl) (by first | exact Or.inl rfl | exact Or.inr (Or.inl rfl) | exact Or.inr (Or.inr rfl))) (se_bty call_list_of (okc_list (fz := false)) (by rfl) x.z_list (by decide +kernel) (SAn.run (san_cons (se_fld (cs := [0]) (se_var (by rfl) (by first | exact Or.inl rfl | exact Or.inr (Or.inl rfl) | exact Or.inr (Or.inr rfl))) x.f_contents) (san_nil)))) x.f_contents) (sss_one (ss_ret (se_var (by rfl) (by first | exact Or.inl rfl | exact Or.inr (Or.inl rfl) | exact Or.inr (Or.inr rfl))))))
theorem fn_law_copied (x : Tx K mg) (tb : x.TB base) : FnM P w K mg base x.T 6 x.a_law_copied x.d_law_copied ["hand", "disk", "book"] r_law_copied := fn_ok x.F_law_copied sc_law_copied fun cdv A outer s H E hr => sss_cons (ss_set (i := 3) sc_law_copied.nd (by rfl) (by first | exact Or.inl rfl | exact Or.inr rfl) (se_call ((fn_law_book x tb).mono (by decide)) hr (takes_of rfl rfl rfl rfl) (by rfl) x.g_law_book x.F_law_book.kp x.b_law_book (san_cons (se_blt (CallR.or call_len call_lenD) okc_len (by rfl) x.z_len (by decide +kernel) (SAn.run (san_cons (se_ix (hu_of hr) (se_var (by rfl) (by first | exact Or.inl rfl | exact Or.inr (Or.inl rfl) | exact Or.inr (Or.inr rfl))) (se_str)) (san_nil)))) (san_nil)))) (sss_cons (ss_asg (se_bty call_list_of (okc_list (fz := false)) (by rfl) x.z_list (by decide +kernel) (SAn.run (san_cons (se_ix (hu_of hr) (se_var (by rfl) (by first | exact Or.inl rfl | exact Or.inr (Or.inl rfl) | exact Or.inr (Or.inr rfl))) (se_str)) (san_nil)))) (sg_sub (hu_of hr) (se_var (by rfl) (by first | exact Or.inl rfl | exact Or.inr (Or.inl rfl) | exact Or.inr (Or.inr rfl))) (se_str))) (sss_one (ss_ret (se_tupA (n := 2) (san_cons (se_meth0 (tb := [(0, r_Disk_copy)]) (se_var (by rfl) (by first | exact Or.inl rfl | exact Or.inr (Or.inl rfl) | exact Or.inr (Or.inr rfl))) (fun p hp => by
      simp only [List.mem_cons, List.not_mem_nil, or_false] at hp
      rcases hp with rfl
      exact ⟨x.cl_Disk, x.a_Disk_copy, x.d_Disk_copy, _, x.me_Disk_copy, (fn_Disk_copy x tb).mono (by decide), x.b_Disk_copy, rfl⟩) hr (takes_of rfl rfl rfl rfl)) (san_cons (se_var (by rfl) (by first | exact Or.inl rfl | exact Or.inr (Or.inl rfl) | exact Or.inr (Or.inr rfl))) (san_nil)))))))
theorem fn_law (x : Tx K mg) (tb : x.TB base) : FnM P w K mg base x.T 10 x.a_law x.d_law ["script"] r_law := fn_ok x.F_law sc_law fun cdv A outer s H E hr => sss_cons (ss_set (i := 1) sc_law.nd (by rfl) (by first | exact Or.inl rfl | exact Or.inr rfl) (se_call ((fn_law_hand x tb).mono (by decide)) hr (takes_of rfl rfl rfl rfl) (by rfl) x.g_law_hand x.F_law_hand.kp x.b_law_hand (san_cons (se_var (by rfl) (by first | exact Or.inl rfl | exact Or.inr (Or.inl rfl) | exact Or.inr (Or.inr rfl))) (san_nil)))) (sss_cons (ss_set (i := 2) sc_law.nd (by rfl) (by first | exact Or.inl rfl | exact Or.inr rfl) (se_ifx (st_cmp (opr_or op_eq (op_eqD hr.units)) ok_eq (se_call ((fn_law_draw x tb).mono (by decide)) hr (takes_of rfl rfl rfl rfl) (by rfl) x.g_law_draw x.F_law_draw.kp x.b_law_draw (san_cons (se_var (by rfl) (by first | exact Or.inl rfl | exact Or.inr (Or.inl rfl) | exact Or.inr (Or.inr rfl))) (san_cons (se_int) (san_nil)))) (se_int) (by rfl)) (se_int) (se_op (opr_or op_add (opr_or op_add_str (opr_or op_catA op_cat))) (ok_add (fz := true)) (se_int) (se_call ((fn_law_draw x tb).mono (by decide)) hr (takes_of rfl rfl rfl rfl) (by rfl) x.g_law_draw x.F_law_draw.kp x.b_law_draw (san_cons (se_var (by rfl) (by first | exact Or.inl rfl | exact Or.inr (Or.inl rfl) | exact Or.inr (Or.inr rfl))) (san_cons (se_int) (san_nil))))))) (sss_cons (ss_par rfl sc_law.nd (by rfl) (by rfl) (by decide) (by rfl) (by rfl) (se_make (c := 0) x.M_Disk ((fn_Disk_init x tb).mono (by decide)) hr (takes_of rfl rfl rfl rfl) (by rfl) x.gC_Disk x.b_Disk_init (n := 1) rfl (san_cons (se_var (by rfl) (by first | exact Or.inl rfl | exact Or.inr (Or.inl rfl) | exact Or.inr (Or.inr rfl))) (san_nil))) (se_call ((fn_law_book x tb).mono (by decide)) hr (takes_of rfl rfl rfl rfl) (by rfl) x.g_law_book x.F_law_book.kp x.b_law_book (san_cons (se_var (by rfl) (by first | exact Or.inl rfl | exact Or.inr (Or.inl rfl) | exact Or.inr (Or.inr rfl))) (san_nil))) (by rfl)) (sss_cons (ss_set (i := 5) sc_law.nd (by rfl) (by first | exact Or.inl rfl | exact Or.inr rfl) (se_sortset (fz := true) rfl (by rfl) x.z_sorted (by decide +kernel) (by rfl) x.z_set (by decide +kernel) (se_op (opr_or op_add (opr_or op_add_str (opr_or op_catA op_cat))) (ok_add (fz := true)) (se_lstA (fz := true) (n := 2) (san_cons (se_int) (san_cons (se_op op_sub ok_sub (se_var (by rfl) (by first | exact Or.inl rfl | exact Or.inr (Or.inl rfl) | exact Or.inr (Or.inr rfl))) (se_int)) (san_nil)))) (se_comp (fz := true) (own := [("turn", 7)]) (t := (.one 7)) rfl sc_law.nd (si_range1 (by rfl) x.z_range (SAn.run (san_cons (se_int) (san_nil)))) (blkOk_by (own := [("turn", 7)]) (N := N_law) (sc := (defScope s_law)) (by decide +kernel)) (by decide) (fun _ _ _ _ _ => pg_name (i := 7) sc_law.nd (by rfl) (Or.inl (by rfl))) (.inl ⟨rfl, rfl⟩) (fun _ _ _ _ _ => se_call ((fn_law_draw x tb).mono (by decide)) hr takes0 (by rfl) x.g_law_draw x.F_law_draw.kp x.b_law_draw (san_cons (se_var (by rfl) (by first | exact Or.inl rfl | exact Or.inr (Or.inl rfl) | exact Or.inr (Or.inr rfl))) (san_cons (se_var (by rfl) (by first | exact Or.inl rfl | exact Or.inr (Or.inl rfl) | exact Or.inr (Or.inr rfl))) (san_nil)))))))) (sss_cons (ss_set (i := 6) sc_law.nd (by rfl) (by first | exact Or.inl rfl | exact Or.inr rfl) (se_lstA (fz := false) (n := 0) (san_nil))) (sss_cons (ss_for (passes_of rfl) rfl (si_range1 (by rfl) x.z_range (SAn.run (san_cons (se_op (opr_or op_add (opr_or op_add_str (opr_or op_catA op_cat))) (ok_add (fz := true)) (se_int) (se_call ((fn_law_draw x tb).mono (by decide)) hr (takes_of rfl rfl rfl rfl) (by rfl) x.g_law_draw x.F_law_draw.kp x.b_law_draw (san_cons (se_var (by rfl) (by first | exact Or.inl rfl | exact Or.inr (Or.inl rfl) | exact Or.inr (Or.inr rfl))) (san_cons (se_int) (san_nil))))) (san_nil)))) (sg_name (i := 7) sc_law.nd (by rfl) (by first | exact Or.inl rfl | exact Or.inr rfl)) (sss_cons (ss_if (st_w (sw_or (st_not (st_tr (se_call ((fn_law_deed x tb).mono (by decide)) hr (takes_of rfl rfl rfl rfl) (by rfl) x.g_law_deed x.F_law_deed.kp x.b_law_deed (san_cons (se_var (by rfl) (by first | exact Or.inl rfl | exact Or.inr (Or.inl rfl) | exact Or.inr (Or.inr rfl))) (san_cons (se_var (by rfl) (by first | exact Or.inl rfl | exact Or.inr (Or.inl rfl) | exact Or.inr (Or.inr rfl))) (san_cons (se_var (by rfl) (by first | exact Or.inl rfl | exact Or.inr (Or.inl rfl) | exact Or.inr (Or.inr rfl))) (san_cons (se_var (by rfl) (by first | exact Or.inl rfl | exact Or.inr (Or.inl rfl) | exact Or.inr (Or.inr rfl))) (san_nil)))))))) (sw_or1 (st_not (st_tr (se_call ((fn_law_shows x tb).mono (by decide)) hr (takes_of rfl rfl rfl rfl) (by rfl) x.g_law_shows x.F_law_shows.kp x.b_law_shows (san_cons (se_var (by rfl) (by first | exact Or.inl rfl | exact Or.inr (Or.inl rfl) | exact Or.inr (Or.inr rfl))) (san_cons (se_var (by rfl) (by first | exact Or.inl rfl | exact Or.inr (Or.inl rfl) | exact Or.inr (Or.inr rfl))) (san_cons (se_var (by rfl) (by first | exact Or.inl rfl | exact Or.inr (Or.inl rfl) | exact Or.inr (Or.inr rfl))) (san_nil)))))))))) (sss_one (ss_ret (se_bl))) (sss_nil)) (sss_one (ss_if (st_cmp (opr_or op_eq (op_eqD hr.units)) ok_eq (se_call ((fn_law_draw x tb).mono (by decide)) hr (takes_of rfl rfl rfl rfl) (by rfl) x.g_law_draw x.F_law_draw.kp x.b_law_draw (san_cons (se_var (by rfl) (by first | exact Or.inl rfl | exact Or.inr (Or.inl rfl) | exact Or.inr (Or.inr rfl))) (san_cons (se_int) (san_nil)))) (se_int) (by rfl)) (sss_cons (ss_expr (se_lm PySem.F.slot_list_append PySem.F.type_list_append mt_append okm_append (se_var (by rfl) (by first | exact Or.inl rfl | exact Or.inr (Or.inl rfl) | exact Or.inr (Or.inr rfl))) (SAn.run (san_cons (se_call ((fn_law_copied x tb).mono (by decide)) hr (takes_of rfl rfl rfl rfl) (by rfl) x.g_law_copied x.F_law_copied.kp x.b_law_copied (san_cons (se_var (by rfl) (by first | exact Or.inl rfl | exact Or.inr (Or.inl rfl) | exact Or.inr (Or.inr rfl))) (san_cons (se_var (by rfl) (by first | exact Or.inl rfl | exact Or.inr (Or.inl rfl) | exact Or.inr (Or.inr rfl))) (san_cons (se_var (by rfl) (by first | exact Or.inl rfl | exact Or.inr (Or.inl rfl) | exact Or.inr (Or.inr rfl))) (san_nil))))) (san_nil))))) (sss_one (ss_if (st_cmp (opr_or op_eq (op_eqD hr.units)) ok_eq (se_call ((fn_law_draw x tb).mono (by decide)) hr (takes_of rfl rfl rfl rfl) (by rfl) x.g_law_draw x.F_law_draw.kp x.b_law_draw (san_cons (se_var (by rfl) (by first | exact Or.inl rfl | exact Or.inr (Or.inl rfl) | exact Or.inr (Or.inr rfl))) (san_cons (se_int) (san_nil)))) (se_int) (by rfl)) (sss_one (ss_asg (se_tupA (n := 2) (san_cons (se_ix (hu_of hr) (se_var (by rfl) (by first | exact Or.inl rfl | exact Or.inr (Or.inl rfl) | exact Or.inr (Or.inr rfl))) (se_neg (se_int))) (san_cons (se_tupA (n := 2) (san_cons (se_var (by rfl) (by first | exact Or.inl rfl | exact Or.inr (Or.inl rfl) | exact Or.inr (Or.inr rfl))) (san_cons (se_var (by rfl) (by first | exact Or.inl rfl | exact Or.inr (Or.inl rfl) | exact Or.inr (Or.inr rfl))) (san_nil)))) (san_nil)))) (sg_tup rfl (sgs_cons (sg_tup rfl (sgs_cons (sg_name (i := 3) sc_law.nd (by rfl) (by first | exact Or.inl rfl | exact Or.inr rfl)) (sgs_cons (sg_name (i := 4) sc_law.nd (by rfl) (by first | exact Or.inl rfl | exact Or.inr rfl)) (sgs_nil)))) (sgs_cons (sg_sub (hu_of hr) (se_var (by rfl) (by first | exact Or.inl rfl | exact Or.inr (Or.inl rfl) | exact Or.inr (Or.inr rfl))) (se_neg (se_int))) (sgs_nil)))))) (sss_nil)))) (sss_nil))))) (sss_cons (ss_if (st_not (st_tr (se_blt (cr_all rfl) okc_all (by rfl) x.z_all (by decide +kernel) (SAn.run (san_cons (se_comp (fz := true) (own := [("other", 8), ("more", 9)]) (t := (.tup [8, 9])) rfl sc_law.nd (si_list (se_var (by rfl) (by first | exact Or.inl rfl | exact Or.inr (Or.inl rfl) | exact Or.inr (Or.inr rfl)))) (blkOk_by (own := [("other", 8), ("more", 9)]) (N := N_law) (sc := (defScope s_law)) (by decide +kernel)) (by decide) (fun _ _ _ _ _ => pg_tup rfl (pgs_cons (pg_name (i := 8) sc_law.nd (by rfl) (Or.inl (by rfl))) (pgs_cons (pg_name (i := 9) sc_law.nd (by rfl) (Or.inl (by rfl))) (pgs_nil)))) (.inl ⟨rfl, rfl⟩) (fun _ _ _ _ _ => se_call ((fn_law_shows x tb).mono (by decide)) hr takes0 (by rfl) x.g_law_shows x.F_law_shows.kp x.b_law_shows (san_cons (se_var (by rfl) (by first | exact Or.inl rfl | exact Or.inr (Or.inl rfl) | exact Or.inr (Or.inr rfl))) (san_cons (se_var (by rfl) (by first | exact Or.inl rfl | exact Or.inr (Or.inl rfl) | exact Or.inr (Or.inr rfl))) (san_cons (se_lrg (fz := true) rfl (by rfl) x.z_range (by rfl) x.z_list (se_var (by rfl) (by first | exact Or.inl rfl | exact Or.inr (Or.inl rfl) | exact Or.inr (Or.inr rfl)))) (san_nil)))))) (san_nil)))))) (sss_one (ss_ret (se_bl))) (sss_nil)) (sss_one (ss_ret (se_call ((fn_law_shows x tb).mono (by decide)) hr (takes_of rfl rfl rfl rfl) (by rfl) x.g_law_shows x.F_law_shows.kp x.b_law_shows (san_cons (se_var (by rfl) (by first | exact Or.inl rfl | exact Or.inr (Or.inl rfl) | exact Or.inr (Or.inr rfl))) (san_cons (se_var (by rfl) (by first | exact Or.inl rfl | exact Or.inr (Or.inl rfl) | exact Or.inr (Or.inr rfl))) (san_cons (se_lrg (fz := true) rfl (by rfl) x.z_range (by rfl) x.z_list (se_var (by rfl) (by first | exact Or.inl rfl | exact Or.inr (Or.inl rfl) | exact Or.inr (Or.inr rfl)))) (san_nil)))))))))))))
end
/-! the end -/
theorem all_mk {w : World} {K : PySem.W.Frag} {h : Heap} {mg : Str → Option Value} {fa : Addr} {ts : List Addr} (X : K.In h) (G : h.Ns mainGlobals mg) (hfa : mg "law" = some (.ref fa))
    {C_Disk : Addr}
    {C_Stopped : Addr}
    {C_NothingWaits : Addr}
    {C_StoreError : Addr}
    {f0 : Addr} {od0 an0 : Option Addr} {sl0 : Array (Option Value)} {oc0 kV0 dc0 pm0 cd0 ct0 : Value}
    {f1 : Addr} {od1 an1 : Option Addr} {sl1 : Array (Option Value)} {oc1 kV1 dc1 pm1 cd1 ct1 : Value}
    {f2 : Addr} {od2 an2 : Option Addr} {sl2 : Array (Option Value)} {oc2 kV2 dc2 pm2 cd2 ct2 : Value}
    {f3 : Addr} {od3 an3 : Option Addr} {sl3 : Array (Option Value)} {oc3 kV3 dc3 pm3 cd3 ct3 : Value}
    {f4 : Addr} {od4 an4 : Option Addr} {sl4 : Array (Option Value)} {oc4 kV4 dc4 pm4 cd4 ct4 : Value}
    {f5 : Addr} {od5 an5 : Option Addr} {sl5 : Array (Option Value)} {oc5 kV5 dc5 pm5 cd5 ct5 : Value}
    {f6 : Addr} {od6 an6 : Option Addr} {sl6 : Array (Option Value)} {oc6 kV6 dc6 pm6 cd6 ct6 : Value}
    {f7 : Addr} {od7 an7 : Option Addr} {sl7 : Array (Option Value)} {oc7 kV7 dc7 pm7 cd7 ct7 : Value}
    {f8 : Addr} {od8 an8 : Option Addr} {sl8 : Array (Option Value)} {oc8 kV8 dc8 pm8 cd8 ct8 : Value}
    {f9 : Addr} {od9 an9 : Option Addr} {sl9 : Array (Option Value)} {oc9 kV9 dc9 pm9 cd9 ct9 : Value}
    {f10 : Addr} {od10 an10 : Option Addr} {sl10 : Array (Option Value)} {oc10 kV10 dc10 pm10 cd10 ct10 : Value}
    {f11 : Addr} {od11 an11 : Option Addr} {sl11 : Array (Option Value)} {oc11 kV11 dc11 pm11 cd11 ct11 : Value}
    {f12 : Addr} {od12 an12 : Option Addr} {sl12 : Array (Option Value)} {oc12 kV12 dc12 pm12 cd12 ct12 : Value}
    {f13 : Addr} {od13 an13 : Option Addr} {sl13 : Array (Option Value)} {oc13 kV13 dc13 pm13 cd13 ct13 : Value}
    {f14 : Addr} {od14 an14 : Option Addr} {sl14 : Array (Option Value)} {oc14 kV14 dc14 pm14 cd14 ct14 : Value}
    {f15 : Addr} {od15 an15 : Option Addr} {sl15 : Array (Option Value)} {oc15 kV15 dc15 pm15 cd15 ct15 : Value}
    {f16 : Addr} {od16 an16 : Option Addr} {sl16 : Array (Option Value)} {oc16 kV16 dc16 pm16 cd16 ct16 : Value}
    {f17 : Addr} {od17 an17 : Option Addr} {sl17 : Array (Option Value)} {oc17 kV17 dc17 pm17 cd17 ct17 : Value}
    {f18 : Addr} {od18 an18 : Option Addr} {sl18 : Array (Option Value)} {oc18 kV18 dc18 pm18 cd18 ct18 : Value}
    {f19 : Addr} {od19 an19 : Option Addr} {sl19 : Array (Option Value)} {oc19 kV19 dc19 pm19 cd19 ct19 : Value}
    {f20 : Addr} {od20 an20 : Option Addr} {sl20 : Array (Option Value)} {oc20 kV20 dc20 pm20 cd20 ct20 : Value}
    {f21 : Addr} {od21 an21 : Option Addr} {sl21 : Array (Option Value)} {oc21 kV21 dc21 pm21 cd21 ct21 : Value}
    {f22 : Addr} {od22 an22 : Option Addr} {sl22 : Array (Option Value)} {oc22 kV22 dc22 pm22 cd22 ct22 : Value}
    {f23 : Addr} {od23 an23 : Option Addr} {sl23 : Array (Option Value)} {oc23 kV23 dc23 pm23 cd23 ct23 : Value}
    {f24 : Addr} {od24 an24 : Option Addr} {sl24 : Array (Option Value)} {oc24 kV24 dc24 pm24 cd24 ct24 : Value}
    {f25 : Addr} {od25 an25 : Option Addr} {sl25 : Array (Option Value)} {oc25 kV25 dc25 pm25 cd25 ct25 : Value}
    {f26 : Addr} {od26 an26 : Option Addr} {sl26 : Array (Option Value)} {oc26 kV26 dc26 pm26 cd26 ct26 : Value}
    {f27 : Addr} {od27 an27 : Option Addr} {sl27 : Array (Option Value)} {oc27 kV27 dc27 pm27 cd27 ct27 : Value}
    {f28 : Addr} {od28 an28 : Option Addr} {sl28 : Array (Option Value)} {oc28 kV28 dc28 pm28 cd28 ct28 : Value}
    {f29 : Addr} {od29 an29 : Option Addr} {sl29 : Array (Option Value)} {oc29 kV29 dc29 pm29 cd29 ct29 : Value}
    {f30 : Addr} {od30 an30 : Option Addr} {sl30 : Array (Option Value)} {oc30 kV30 dc30 pm30 cd30 ct30 : Value}
    {f31 : Addr} {od31 an31 : Option Addr} {sl31 : Array (Option Value)} {oc31 kV31 dc31 pm31 cd31 ct31 : Value}
    {f32 : Addr} {od32 an32 : Option Addr} {sl32 : Array (Option Value)} {oc32 kV32 dc32 pm32 ct32 : Value} {cc32 : Addr}
    {f33 : Addr} {od33 an33 : Option Addr} {sl33 : Array (Option Value)} {oc33 kV33 dc33 pm33 cd33 ct33 : Value}
    {f34 : Addr} {od34 an34 : Option Addr} {sl34 : Array (Option Value)} {oc34 kV34 dc34 pm34 cd34 ct34 : Value}
    {f35 : Addr} {od35 an35 : Option Addr} {sl35 : Array (Option Value)} {oc35 kV35 dc35 pm35 cd35 ct35 : Value}
    {t_FEWEST_BLOCKS : Tok}
    {t_GREATEST_ITEM : Tok}
    {t_LONGEST_CONTENT : Tok}
    {t_LONGEST_WORD : Tok}
    {t_MOST_BLOCKS : Tok}
    {t_MOST_POWER : Tok}
    (aC_Disk : PySem.W.nsIn K mainGlobals "Disk" = some (some (.ref C_Disk)))
    (aC_Stopped : PySem.W.nsIn K mainGlobals "Stopped" = some (some (.ref C_Stopped)))
    (aC_NothingWaits : PySem.W.nsIn K mainGlobals "NothingWaits" = some (some (.ref C_NothingWaits)))
    (aC_StoreError : PySem.W.nsIn K mainGlobals "StoreError" = some (some (.ref C_StoreError)))
    (a0 : PySem.W.nsIn K mainGlobals "_law_hand" = some (some (.ref f0)))
    (l0 : K.lookup f0 = some ⟨oc0, od0, .func (PySem.W.fnOf "_law_hand" "_law_hand" (defArgs s_law_hand) (defBody s_law_hand) (defScope s_law_hand) .none kV0 dc0 pm0 an0 cd0 ct0), sl0⟩)
    (c0 : PySem.W.codeIn K cd0 "_law_hand" = true)
    (k0 : PySem.W.keepIn K (.ref f0) = true)
    (a1 : PySem.W.nsIn K mainGlobals "_law_draw" = some (some (.ref f1)))
    (l1 : K.lookup f1 = some ⟨oc1, od1, .func (PySem.W.fnOf "_law_draw" "_law_draw" (defArgs s_law_draw) (defBody s_law_draw) (defScope s_law_draw) .none kV1 dc1 pm1 an1 cd1 ct1), sl1⟩)
    (c1 : PySem.W.codeIn K cd1 "_law_draw" = true)
    (k1 : PySem.W.keepIn K (.ref f1) = true)
    (a2 : PySem.W.nsIn K mainGlobals "is_integer" = some (some (.ref f2)))
    (l2 : K.lookup f2 = some ⟨oc2, od2, .func (PySem.W.fnOf "is_integer" "is_integer" (defArgs s_is_integer) (defBody s_is_integer) (defScope s_is_integer) .none kV2 dc2 pm2 an2 cd2 ct2), sl2⟩)
    (c2 : PySem.W.codeIn K cd2 "is_integer" = true)
    (k2 : PySem.W.keepIn K (.ref f2) = true)
    (a3 : PySem.W.nsIn K mainGlobals "is_within" = some (some (.ref f3)))
    (l3 : K.lookup f3 = some ⟨oc3, od3, .func (PySem.W.fnOf "is_within" "is_within" (defArgs s_is_within) (defBody s_is_within) (defScope s_is_within) .none kV3 dc3 pm3 an3 cd3 ct3), sl3⟩)
    (c3 : PySem.W.codeIn K cd3 "is_within" = true)
    (k3 : PySem.W.keepIn K (.ref f3) = true)
    (a4 : PySem.W.findIn K (.ref C_Disk) "__init__" = some (some (.ref f4)))
    (i4 : PySem.W.isFn K (.ref f4) = true)
    (l4 : K.lookup f4 = some ⟨oc4, od4, .func (PySem.W.fnOf "__init__" "Disk.__init__" (defArgs s_Disk_init) (defBody s_Disk_init) (defScope s_Disk_init) .none kV4 dc4 pm4 an4 cd4 ct4), sl4⟩)
    (c4 : PySem.W.codeIn K cd4 "Disk.__init__" = true)
    (k4 : PySem.W.keepIn K (.ref f4) = true)
    (a5 : PySem.W.nsIn K mainGlobals "_law_book" = some (some (.ref f5)))
    (l5 : K.lookup f5 = some ⟨oc5, od5, .func (PySem.W.fnOf "_law_book" "_law_book" (defArgs s_law_book) (defBody s_law_book) (defScope s_law_book) .none kV5 dc5 pm5 an5 cd5 ct5), sl5⟩)
    (c5 : PySem.W.codeIn K cd5 "_law_book" = true)
    (k5 : PySem.W.keepIn K (.ref f5) = true)
    (a6 : PySem.W.nsIn K mainGlobals "_law_any" = some (some (.ref f6)))
    (l6 : K.lookup f6 = some ⟨oc6, od6, .func (PySem.W.fnOf "_law_any" "_law_any" (defArgs s_law_any) (defBody s_law_any) (defScope s_law_any) .none kV6 dc6 pm6 an6 cd6 ct6), sl6⟩)
    (c6 : PySem.W.codeIn K cd6 "_law_any" = true)
    (k6 : PySem.W.keepIn K (.ref f6) = true)
    (a7 : PySem.W.nsIn K mainGlobals "_law_content" = some (some (.ref f7)))
    (l7 : K.lookup f7 = some ⟨oc7, od7, .func (PySem.W.fnOf "_law_content" "_law_content" (defArgs s_law_content) (defBody s_law_content) (defScope s_law_content) .none kV7 dc7 pm7 an7 cd7 ct7), sl7⟩)
    (c7 : PySem.W.codeIn K cd7 "_law_content" = true)
    (k7 : PySem.W.keepIn K (.ref f7) = true)
    (a8 : PySem.W.nsIn K mainGlobals "_law_wrote" = some (some (.ref f8)))
    (l8 : K.lookup f8 = some ⟨oc8, od8, .func (PySem.W.fnOf "_law_wrote" "_law_wrote" (defArgs s_law_wrote) (defBody s_law_wrote) (defScope s_law_wrote) .none kV8 dc8 pm8 an8 cd8 ct8), sl8⟩)
    (c8 : PySem.W.codeIn K cd8 "_law_wrote" = true)
    (k8 : PySem.W.keepIn K (.ref f8) = true)
    (a9 : PySem.W.nsIn K mainGlobals "_law_word" = some (some (.ref f9)))
    (l9 : K.lookup f9 = some ⟨oc9, od9, .func (PySem.W.fnOf "_law_word" "_law_word" (defArgs s_law_word) (defBody s_law_word) (defScope s_law_word) .none kV9 dc9 pm9 an9 cd9 ct9), sl9⟩)
    (c9 : PySem.W.codeIn K cd9 "_law_word" = true)
    (k9 : PySem.W.keepIn K (.ref f9) = true)
    (a10 : PySem.W.findIn K (.ref C_Disk) "blocks" = some (some (.ref f10)))
    (i10 : PySem.W.isFn K (.ref f10) = true)
    (l10 : K.lookup f10 = some ⟨oc10, od10, .func (PySem.W.fnOf "blocks" "Disk.blocks" (defArgs s_Disk_blocks) (defBody s_Disk_blocks) (defScope s_Disk_blocks) .none kV10 dc10 pm10 an10 cd10 ct10), sl10⟩)
    (c10 : PySem.W.codeIn K cd10 "Disk.blocks" = true)
    (k10 : PySem.W.keepIn K (.ref f10) = true)
    (a11 : PySem.W.findIn K (.ref C_Disk) "demand_block" = some (some (.ref f11)))
    (i11 : PySem.W.isFn K (.ref f11) = true)
    (l11 : K.lookup f11 = some ⟨oc11, od11, .func (PySem.W.fnOf "demand_block" "Disk.demand_block" (defArgs s_Disk_demand_block) (defBody s_Disk_demand_block) (defScope s_Disk_demand_block) .none kV11 dc11 pm11 an11 cd11 ct11), sl11⟩)
    (c11 : PySem.W.codeIn K cd11 "Disk.demand_block" = true)
    (k11 : PySem.W.keepIn K (.ref f11) = true)
    (a12 : PySem.W.nsIn K mainGlobals "is_word" = some (some (.ref f12)))
    (l12 : K.lookup f12 = some ⟨oc12, od12, .func (PySem.W.fnOf "is_word" "is_word" (defArgs s_is_word) (defBody s_is_word) (defScope s_is_word) .none kV12 dc12 pm12 an12 cd12 ct12), sl12⟩)
    (c12 : PySem.W.codeIn K cd12 "is_word" = true)
    (k12 : PySem.W.keepIn K (.ref f12) = true)
    (a13 : PySem.W.nsIn K mainGlobals "is_item" = some (some (.ref f13)))
    (l13 : K.lookup f13 = some ⟨oc13, od13, .func (PySem.W.fnOf "is_item" "is_item" (defArgs s_is_item) (defBody s_is_item) (defScope s_is_item) .none kV13 dc13 pm13 an13 cd13 ct13), sl13⟩)
    (c13 : PySem.W.codeIn K cd13 "is_item" = true)
    (k13 : PySem.W.keepIn K (.ref f13) = true)
    (a14 : PySem.W.nsIn K mainGlobals "is_row" = some (some (.ref f14)))
    (l14 : K.lookup f14 = some ⟨oc14, od14, .func (PySem.W.fnOf "is_row" "is_row" (defArgs s_is_row) (defBody s_is_row) (defScope s_is_row) .none kV14 dc14 pm14 an14 cd14 ct14), sl14⟩)
    (c14 : PySem.W.codeIn K cd14 "is_row" = true)
    (k14 : PySem.W.keepIn K (.ref f14) = true)
    (a15 : PySem.W.nsIn K mainGlobals "is_content" = some (some (.ref f15)))
    (l15 : K.lookup f15 = some ⟨oc15, od15, .func (PySem.W.fnOf "is_content" "is_content" (defArgs s_is_content) (defBody s_is_content) (defScope s_is_content) .none kV15 dc15 pm15 an15 cd15 ct15), sl15⟩)
    (c15 : PySem.W.codeIn K cd15 "is_content" = true)
    (k15 : PySem.W.keepIn K (.ref f15) = true)
    (a16 : PySem.W.findIn K (.ref C_Disk) "write" = some (some (.ref f16)))
    (i16 : PySem.W.isFn K (.ref f16) = true)
    (l16 : K.lookup f16 = some ⟨oc16, od16, .func (PySem.W.fnOf "write" "Disk.write" (defArgs s_Disk_write) (defBody s_Disk_write) (defScope s_Disk_write) .none kV16 dc16 pm16 an16 cd16 ct16), sl16⟩)
    (c16 : PySem.W.codeIn K cd16 "Disk.write" = true)
    (k16 : PySem.W.keepIn K (.ref f16) = true)
    (a17 : PySem.W.nsIn K mainGlobals "_law_reached" = some (some (.ref f17)))
    (l17 : K.lookup f17 = some ⟨oc17, od17, .func (PySem.W.fnOf "_law_reached" "_law_reached" (defArgs s_law_reached) (defBody s_law_reached) (defScope s_law_reached) .none kV17 dc17 pm17 an17 cd17 ct17), sl17⟩)
    (c17 : PySem.W.codeIn K cd17 "_law_reached" = true)
    (k17 : PySem.W.keepIn K (.ref f17) = true)
    (a18 : PySem.W.findIn K (.ref C_Disk) "let_reach" = some (some (.ref f18)))
    (i18 : PySem.W.isFn K (.ref f18) = true)
    (l18 : K.lookup f18 = some ⟨oc18, od18, .func (PySem.W.fnOf "let_reach" "Disk.let_reach" (defArgs s_Disk_let_reach) (defBody s_Disk_let_reach) (defScope s_Disk_let_reach) .none kV18 dc18 pm18 an18 cd18 ct18), sl18⟩)
    (c18 : PySem.W.codeIn K cd18 "Disk.let_reach" = true)
    (k18 : PySem.W.keepIn K (.ref f18) = true)
    (a19 : PySem.W.findIn K (.ref C_Disk) "reach" = some (some (.ref f19)))
    (i19 : PySem.W.isFn K (.ref f19) = true)
    (l19 : K.lookup f19 = some ⟨oc19, od19, .func (PySem.W.fnOf "reach" "Disk.reach" (defArgs s_Disk_reach) (defBody s_Disk_reach) (defScope s_Disk_reach) .none kV19 dc19 pm19 an19 cd19 ct19), sl19⟩)
    (c19 : PySem.W.codeIn K cd19 "Disk.reach" = true)
    (k19 : PySem.W.keepIn K (.ref f19) = true)
    (a20 : PySem.W.nsIn K mainGlobals "_law_forced" = some (some (.ref f20)))
    (l20 : K.lookup f20 = some ⟨oc20, od20, .func (PySem.W.fnOf "_law_forced" "_law_forced" (defArgs s_law_forced) (defBody s_law_forced) (defScope s_law_forced) .none kV20 dc20 pm20 an20 cd20 ct20), sl20⟩)
    (c20 : PySem.W.codeIn K cd20 "_law_forced" = true)
    (k20 : PySem.W.keepIn K (.ref f20) = true)
    (a21 : PySem.W.nsIn K mainGlobals "is_lot_below" = some (some (.ref f21)))
    (l21 : K.lookup f21 = some ⟨oc21, od21, .func (PySem.W.fnOf "is_lot_below" "is_lot_below" (defArgs s_is_lot_below) (defBody s_is_lot_below) (defScope s_is_lot_below) .none kV21 dc21 pm21 an21 cd21 ct21), sl21⟩)
    (c21 : PySem.W.codeIn K cd21 "is_lot_below" = true)
    (k21 : PySem.W.keepIn K (.ref f21) = true)
    (a22 : PySem.W.findIn K (.ref C_Disk) "force" = some (some (.ref f22)))
    (i22 : PySem.W.isFn K (.ref f22) = true)
    (l22 : K.lookup f22 = some ⟨oc22, od22, .func (PySem.W.fnOf "force" "Disk.force" (defArgs s_Disk_force) (defBody s_Disk_force) (defScope s_Disk_force) .none kV22 dc22 pm22 an22 cd22 ct22), sl22⟩)
    (c22 : PySem.W.codeIn K cd22 "Disk.force" = true)
    (k22 : PySem.W.keepIn K (.ref f22) = true)
    (a23 : PySem.W.findIn K (.ref C_Disk) "calm" = some (some (.ref f23)))
    (i23 : PySem.W.isFn K (.ref f23) = true)
    (l23 : K.lookup f23 = some ⟨oc23, od23, .func (PySem.W.fnOf "calm" "Disk.calm" (defArgs s_Disk_calm) (defBody s_Disk_calm) (defScope s_Disk_calm) .none kV23 dc23 pm23 an23 cd23 ct23), sl23⟩)
    (c23 : PySem.W.codeIn K cd23 "Disk.calm" = true)
    (k23 : PySem.W.keepIn K (.ref f23) = true)
    (a24 : PySem.W.findIn K (.ref C_Disk) "power" = some (some (.ref f24)))
    (i24 : PySem.W.isFn K (.ref f24) = true)
    (l24 : K.lookup f24 = some ⟨oc24, od24, .func (PySem.W.fnOf "power" "Disk.power" (defArgs s_Disk_power) (defBody s_Disk_power) (defScope s_Disk_power) .none kV24 dc24 pm24 an24 cd24 ct24), sl24⟩)
    (c24 : PySem.W.codeIn K cd24 "Disk.power" = true)
    (k24 : PySem.W.keepIn K (.ref f24) = true)
    (a25 : PySem.W.nsIn K mainGlobals "_law_cut" = some (some (.ref f25)))
    (l25 : K.lookup f25 = some ⟨oc25, od25, .func (PySem.W.fnOf "_law_cut" "_law_cut" (defArgs s_law_cut) (defBody s_law_cut) (defScope s_law_cut) .none kV25 dc25 pm25 an25 cd25 ct25), sl25⟩)
    (c25 : PySem.W.codeIn K cd25 "_law_cut" = true)
    (k25 : PySem.W.keepIn K (.ref f25) = true)
    (a26 : PySem.W.findIn K (.ref C_Disk) "cut" = some (some (.ref f26)))
    (i26 : PySem.W.isFn K (.ref f26) = true)
    (l26 : K.lookup f26 = some ⟨oc26, od26, .func (PySem.W.fnOf "cut" "Disk.cut" (defArgs s_Disk_cut) (defBody s_Disk_cut) (defScope s_Disk_cut) .none kV26 dc26 pm26 an26 cd26 ct26), sl26⟩)
    (c26 : PySem.W.codeIn K cd26 "Disk.cut" = true)
    (k26 : PySem.W.keepIn K (.ref f26) = true)
    (a27 : PySem.W.findIn K (.ref C_Disk) "reached" = some (some (.ref f27)))
    (i27 : PySem.W.isFn K (.ref f27) = true)
    (l27 : K.lookup f27 = some ⟨oc27, od27, .func (PySem.W.fnOf "reached" "Disk.reached" (defArgs s_Disk_reached) (defBody s_Disk_reached) (defScope s_Disk_reached) .none kV27 dc27 pm27 an27 cd27 ct27), sl27⟩)
    (c27 : PySem.W.codeIn K cd27 "Disk.reached" = true)
    (k27 : PySem.W.keepIn K (.ref f27) = true)
    (a28 : PySem.W.findIn K (.ref C_Disk) "waiting" = some (some (.ref f28)))
    (i28 : PySem.W.isFn K (.ref f28) = true)
    (l28 : K.lookup f28 = some ⟨oc28, od28, .func (PySem.W.fnOf "waiting" "Disk.waiting" (defArgs s_Disk_waiting) (defBody s_Disk_waiting) (defScope s_Disk_waiting) .none kV28 dc28 pm28 an28 cd28 ct28), sl28⟩)
    (c28 : PySem.W.codeIn K cd28 "Disk.waiting" = true)
    (k28 : PySem.W.keepIn K (.ref f28) = true)
    (a29 : PySem.W.findIn K (.ref C_Disk) "read" = some (some (.ref f29)))
    (i29 : PySem.W.isFn K (.ref f29) = true)
    (l29 : K.lookup f29 = some ⟨oc29, od29, .func (PySem.W.fnOf "read" "Disk.read" (defArgs s_Disk_read) (defBody s_Disk_read) (defScope s_Disk_read) .none kV29 dc29 pm29 an29 cd29 ct29), sl29⟩)
    (c29 : PySem.W.codeIn K cd29 "Disk.read" = true)
    (k29 : PySem.W.keepIn K (.ref f29) = true)
    (a30 : PySem.W.findIn K (.ref C_Disk) "lying" = some (some (.ref f30)))
    (i30 : PySem.W.isFn K (.ref f30) = true)
    (l30 : K.lookup f30 = some ⟨oc30, od30, .func (PySem.W.fnOf "lying" "Disk.lying" (defArgs s_Disk_lying) (defBody s_Disk_lying) (defScope s_Disk_lying) .none kV30 dc30 pm30 an30 cd30 ct30), sl30⟩)
    (c30 : PySem.W.codeIn K cd30 "Disk.lying" = true)
    (k30 : PySem.W.keepIn K (.ref f30) = true)
    (a31 : PySem.W.nsIn K mainGlobals "_law_shows" = some (some (.ref f31)))
    (l31 : K.lookup f31 = some ⟨oc31, od31, .func (PySem.W.fnOf "_law_shows" "_law_shows" (defArgs s_law_shows) (defBody s_law_shows) (defScope s_law_shows) .none kV31 dc31 pm31 an31 cd31 ct31), sl31⟩)
    (c31 : PySem.W.codeIn K cd31 "_law_shows" = true)
    (k31 : PySem.W.keepIn K (.ref f31) = true)
    (a32 : PySem.W.nsIn K mainGlobals "_law_deed" = some (some (.ref f32)))
    (l32 : K.lookup f32 = some ⟨oc32, od32, .func (PySem.W.fnOf "_law_deed" "_law_deed" (defArgs s_law_deed) (defBody s_law_deed) (defScope s_law_deed) .none kV32 dc32 pm32 an32 (.ref cc32) ct32), sl32⟩)
    (tc32 : PySem.W.codeHdIn K cc32 (He.tabOf K cc32) = true)
    (tn32 : K.lookup (He.tabOf K cc32) = none)
    (tm32 : ts.contains (He.tabOf K cc32) = true)
    (c32 : PySem.W.codeIn K (.ref cc32) "_law_deed" = true)
    (k32 : PySem.W.keepIn K (.ref f32) = true)
    (a33 : PySem.W.findIn K (.ref C_Disk) "copy" = some (some (.ref f33)))
    (i33 : PySem.W.isFn K (.ref f33) = true)
    (l33 : K.lookup f33 = some ⟨oc33, od33, .func (PySem.W.fnOf "copy" "Disk.copy" (defArgs s_Disk_copy) (defBody s_Disk_copy) (defScope s_Disk_copy) .none kV33 dc33 pm33 an33 cd33 ct33), sl33⟩)
    (c33 : PySem.W.codeIn K cd33 "Disk.copy" = true)
    (k33 : PySem.W.keepIn K (.ref f33) = true)
    (a34 : PySem.W.nsIn K mainGlobals "_law_copied" = some (some (.ref f34)))
    (l34 : K.lookup f34 = some ⟨oc34, od34, .func (PySem.W.fnOf "_law_copied" "_law_copied" (defArgs s_law_copied) (defBody s_law_copied) (defScope s_law_copied) .none kV34 dc34 pm34 an34 cd34 ct34), sl34⟩)
    (c34 : PySem.W.codeIn K cd34 "_law_copied" = true)
    (k34 : PySem.W.keepIn K (.ref f34) = true)
    (a35 : PySem.W.nsIn K mainGlobals "law" = some (some (.ref f35)))
    (l35 : K.lookup f35 = some ⟨oc35, od35, .func (PySem.W.fnOf "law" "law" (defArgs s_law) (defBody s_law) (defScope s_law) .none kV35 dc35 pm35 an35 cd35 ct35), sl35⟩)
    (c35 : PySem.W.codeIn K cd35 "law" = true)
    (k35 : PySem.W.keepIn K (.ref f35) = true)
    (pg_Disk : PySem.W.plainGet K C_Disk Str.empty = true)
    (hd_Disk : PySem.W.hasDictIn K C_Disk = true)
    (po_Disk : PySem.W.plainOver K C_Disk = true)
    (sa_Disk : PySem.W.findIn K (.ref C_Disk) "__setattr__" = some (some (.builtin "object.__setattr__")))
    (ex_Stopped : PySem.W.excIn K C_Stopped [.type "ValueError", .type "Exception", .type "BaseException", .type "object"] "ValueError.__new__" = true)
    (ek_Stopped : PySem.W.keepIn K (.ref C_Stopped) = true)
    (es_Stopped : PySem.W.subIn K (.ref C_Stopped) (.type "BaseException") = some true)
    (et_Stopped : PySem.W.typeIn K (.ref C_Stopped) = some (.type "type"))
    (ei_Stopped : PySem.W.isClsIn K C_Stopped = true)
    (kb_Stopped_ValueError : PySem.W.kitOne K (.ref C_Stopped) (.type "ValueError") = some true)
    (xg_Stopped : PySem.W.findIn K (.ref C_Stopped) "__getattribute__" = some (some (.builtin "BaseException.__getattribute__")))
    (xk_Stopped : PySem.W.findIn K (.ref C_Stopped) "__getattr__" = some none)
    (xd_Stopped : PySem.W.hasDictIn K C_Stopped = true)
    (xa_Stopped : PySem.W.findIn K (.ref C_Stopped) "__class__" = some (some (.builtin "object.__class__")))
    (xo_Stopped : PySem.W.mroIn K C_Stopped (.type "object") = some true)
    (xn_all : PySem.W.specialIn K (.builtin "object.__class__") "__get__" = some (some (.builtin "getset_descriptor.__get__")))
    (xt_all : PySem.W.takesIn K (.builtin "object.__class__") = some true)
    (kt_Stopped_StoreError : PySem.W.kitOne K (.ref C_Stopped) (.ref C_StoreError) = some true)
    (su_Stopped_NothingWaits : PySem.W.subIn K (.ref C_Stopped) (.ref C_NothingWaits) = some false)
    (su_Stopped_Stopped : PySem.W.subIn K (.ref C_Stopped) (.ref C_Stopped) = some true)
    (ex_NothingWaits : PySem.W.excIn K C_NothingWaits [.type "ValueError", .type "Exception", .type "BaseException", .type "object"] "ValueError.__new__" = true)
    (ek_NothingWaits : PySem.W.keepIn K (.ref C_NothingWaits) = true)
    (es_NothingWaits : PySem.W.subIn K (.ref C_NothingWaits) (.type "BaseException") = some true)
    (et_NothingWaits : PySem.W.typeIn K (.ref C_NothingWaits) = some (.type "type"))
    (ei_NothingWaits : PySem.W.isClsIn K C_NothingWaits = true)
    (kb_NothingWaits_ValueError : PySem.W.kitOne K (.ref C_NothingWaits) (.type "ValueError") = some true)
    (xg_NothingWaits : PySem.W.findIn K (.ref C_NothingWaits) "__getattribute__" = some (some (.builtin "BaseException.__getattribute__")))
    (xk_NothingWaits : PySem.W.findIn K (.ref C_NothingWaits) "__getattr__" = some none)
    (xd_NothingWaits : PySem.W.hasDictIn K C_NothingWaits = true)
    (xa_NothingWaits : PySem.W.findIn K (.ref C_NothingWaits) "__class__" = some (some (.builtin "object.__class__")))
    (xo_NothingWaits : PySem.W.mroIn K C_NothingWaits (.type "object") = some true)
    (kt_NothingWaits_StoreError : PySem.W.kitOne K (.ref C_NothingWaits) (.ref C_StoreError) = some true)
    (su_NothingWaits_NothingWaits : PySem.W.subIn K (.ref C_NothingWaits) (.ref C_NothingWaits) = some true)
    (su_NothingWaits_Stopped : PySem.W.subIn K (.ref C_NothingWaits) (.ref C_Stopped) = some false)
    (ex_StoreError : PySem.W.excIn K C_StoreError [.type "ValueError", .type "Exception", .type "BaseException", .type "object"] "ValueError.__new__" = true)
    (ek_StoreError : PySem.W.keepIn K (.ref C_StoreError) = true)
    (es_StoreError : PySem.W.subIn K (.ref C_StoreError) (.type "BaseException") = some true)
    (et_StoreError : PySem.W.typeIn K (.ref C_StoreError) = some (.type "type"))
    (ei_StoreError : PySem.W.isClsIn K C_StoreError = true)
    (kb_StoreError_ValueError : PySem.W.kitOne K (.ref C_StoreError) (.type "ValueError") = some true)
    (xg_StoreError : PySem.W.findIn K (.ref C_StoreError) "__getattribute__" = some (some (.builtin "BaseException.__getattribute__")))
    (xk_StoreError : PySem.W.findIn K (.ref C_StoreError) "__getattr__" = some none)
    (xd_StoreError : PySem.W.hasDictIn K C_StoreError = true)
    (xa_StoreError : PySem.W.findIn K (.ref C_StoreError) "__class__" = some (some (.builtin "object.__class__")))
    (xo_StoreError : PySem.W.mroIn K C_StoreError (.type "object") = some true)
    (kt_StoreError_StoreError : PySem.W.kitOne K (.ref C_StoreError) (.ref C_StoreError) = some true)
    (su_StoreError_NothingWaits : PySem.W.subIn K (.ref C_StoreError) (.ref C_NothingWaits) = some false)
    (su_StoreError_Stopped : PySem.W.subIn K (.ref C_StoreError) (.ref C_Stopped) = some false)
    (mk_Disk : PySem.W.makesIn K C_Disk = true)
    (kc_Disk : PySem.W.keepIn K (.ref C_Disk) = true)
    (nf_arrived_Disk : PySem.W.findIn K (.ref C_Disk) "arrived" = some none)
    (nf_cached_Disk : PySem.W.findIn K (.ref C_Disk) "cached" = some none)
    (nf_contents_Disk : PySem.W.findIn K (.ref C_Disk) "contents" = some none)
    (nf_left_Disk : PySem.W.findIn K (.ref C_Disk) "left" = some none)
    (co_FEWEST_BLOCKS : PySem.W.nsIn K mainGlobals "FEWEST_BLOCKS" = some (some (.int 16 t_FEWEST_BLOCKS)))
    (co_GREATEST_ITEM : PySem.W.nsIn K mainGlobals "GREATEST_ITEM" = some (some (.int 1000000000000000000000000000000 t_GREATEST_ITEM)))
    (co_LONGEST_CONTENT : PySem.W.nsIn K mainGlobals "LONGEST_CONTENT" = some (some (.int 40 t_LONGEST_CONTENT)))
    (co_LONGEST_WORD : PySem.W.nsIn K mainGlobals "LONGEST_WORD" = some (some (.int 12 t_LONGEST_WORD)))
    (co_MOST_BLOCKS : PySem.W.nsIn K mainGlobals "MOST_BLOCKS" = some (some (.int 600 t_MOST_BLOCKS)))
    (co_MOST_POWER : PySem.W.nsIn K mainGlobals "MOST_POWER" = some (some (.int 1000000 t_MOST_POWER)))
    (zb_ValueError : PySem.W.nsIn K mainGlobals "ValueError" = some none)
    (zb_abs : PySem.W.nsIn K mainGlobals "abs" = some none)
    (zb_all : PySem.W.nsIn K mainGlobals "all" = some none)
    (zb_bool : PySem.W.nsIn K mainGlobals "bool" = some none)
    (zb_dict : PySem.W.nsIn K mainGlobals "dict" = some none)
    (zb_int : PySem.W.nsIn K mainGlobals "int" = some none)
    (zb_isinstance : PySem.W.nsIn K mainGlobals "isinstance" = some none)
    (zb_len : PySem.W.nsIn K mainGlobals "len" = some none)
    (zb_list : PySem.W.nsIn K mainGlobals "list" = some none)
    (zb_range : PySem.W.nsIn K mainGlobals "range" = some none)
    (zb_set : PySem.W.nsIn K mainGlobals "set" = some none)
    (zb_sorted : PySem.W.nsIn K mainGlobals "sorted" = some none)
    (zb_str : PySem.W.nsIn K mainGlobals "str" = some none)
    (zb_tuple : PySem.W.nsIn K mainGlobals "tuple" = some none)
    : ∃ x : Tx K mg, x.a_law = fa ∧ (∀ p ∈ x.cs, PySem.W.codeHdIn K p.1 p.2 = true) ∧ (∀ p ∈ x.cs, K.lookup p.2 = none) ∧ (∀ p ∈ x.cs, p.2 ∈ ts) := by
  have e := hfa.symm.trans (PySem.W.mg_of X G a35)
  cases e
  exact ⟨{
    C_Disk := C_Disk,
    C_Stopped := C_Stopped,
    C_NothingWaits := C_NothingWaits,
    C_StoreError := C_StoreError,
    a_law_hand := f0,
    d_law_hand := _,
    F_law_hand := fun_mk (st := s_law_hand) l0 c0 k0,
    b_law_hand := (fun_mk (st := s_law_hand) l0 c0 k0).binds (ps := ["script"]) (fun _ _ _ _ _ _ us hl => match us, hl with | [_], _ => rfl),
    g_law_hand := PySem.W.mg_of X G a0,
    a_law_draw := f1,
    d_law_draw := _,
    F_law_draw := fun_mk (st := s_law_draw) l1 c1 k1,
    b_law_draw := (fun_mk (st := s_law_draw) l1 c1 k1).binds (ps := ["hand", "many"]) (fun _ _ _ _ _ _ us hl => match us, hl with | [_, _], _ => rfl),
    g_law_draw := PySem.W.mg_of X G a1,
    a_is_integer := f2,
    d_is_integer := _,
    F_is_integer := fun_mk (st := s_is_integer) l2 c2 k2,
    b_is_integer := (fun_mk (st := s_is_integer) l2 c2 k2).binds (ps := ["thing"]) (fun _ _ _ _ _ _ us hl => match us, hl with | [_], _ => rfl),
    g_is_integer := PySem.W.mg_of X G a2,
    a_is_within := f3,
    d_is_within := _,
    F_is_within := fun_mk (st := s_is_within) l3 c3 k3,
    b_is_within := (fun_mk (st := s_is_within) l3 c3 k3).binds (ps := ["low", "high", "thing"]) (fun _ _ _ _ _ _ us hl => match us, hl with | [_, _, _], _ => rfl),
    g_is_within := PySem.W.mg_of X G a3,
    a_Disk_init := f4,
    d_Disk_init := _,
    F_Disk_init := fun_mk (st := s_Disk_init) l4 c4 k4,
    b_Disk_init := (fun_mk (st := s_Disk_init) l4 c4 k4).binds (ps := ["self", "blocks"]) (fun _ _ _ _ _ _ us hl => match us, hl with | [_, _], _ => rfl),
    a_law_book := f5,
    d_law_book := _,
    F_law_book := fun_mk (st := s_law_book) l5 c5 k5,
    b_law_book := (fun_mk (st := s_law_book) l5 c5 k5).binds (ps := ["blocks"]) (fun _ _ _ _ _ _ us hl => match us, hl with | [_], _ => rfl),
    g_law_book := PySem.W.mg_of X G a5,
    a_law_any := f6,
    d_law_any := _,
    F_law_any := fun_mk (st := s_law_any) l6 c6 k6,
    b_law_any := (fun_mk (st := s_law_any) l6 c6 k6).binds (ps := ["hand", "some"]) (fun _ _ _ _ _ _ us hl => match us, hl with | [_, _], _ => rfl),
    g_law_any := PySem.W.mg_of X G a6,
    a_law_content := f7,
    d_law_content := _,
    F_law_content := fun_mk (st := s_law_content) l7 c7 k7,
    b_law_content := (fun_mk (st := s_law_content) l7 c7 k7).binds (ps := ["hand"]) (fun _ _ _ _ _ _ us hl => match us, hl with | [_], _ => rfl),
    g_law_content := PySem.W.mg_of X G a7,
    a_law_wrote := f8,
    d_law_wrote := _,
    F_law_wrote := fun_mk (st := s_law_wrote) l8 c8 k8,
    b_law_wrote := (fun_mk (st := s_law_wrote) l8 c8 k8).binds (ps := ["book", "block", "content"]) (fun _ _ _ _ _ _ us hl => match us, hl with | [_, _, _], _ => rfl),
    g_law_wrote := PySem.W.mg_of X G a8,
    a_law_word := f9,
    d_law_word := _,
    F_law_word := fun_mk (st := s_law_word) l9 c9 k9,
    b_law_word := (fun_mk (st := s_law_word) l9 c9 k9).binds (ps := ["call"]) (fun _ _ _ _ _ _ us hl => match us, hl with | [_], _ => rfl),
    g_law_word := PySem.W.mg_of X G a9,
    a_Disk_blocks := f10,
    d_Disk_blocks := _,
    F_Disk_blocks := fun_mk (st := s_Disk_blocks) l10 c10 k10,
    b_Disk_blocks := (fun_mk (st := s_Disk_blocks) l10 c10 k10).binds (ps := ["self"]) (fun _ _ _ _ _ _ us hl => match us, hl with | [_], _ => rfl),
    a_Disk_demand_block := f11,
    d_Disk_demand_block := _,
    F_Disk_demand_block := fun_mk (st := s_Disk_demand_block) l11 c11 k11,
    b_Disk_demand_block := (fun_mk (st := s_Disk_demand_block) l11 c11 k11).binds (ps := ["self", "block"]) (fun _ _ _ _ _ _ us hl => match us, hl with | [_, _], _ => rfl),
    a_is_word := f12,
    d_is_word := _,
    F_is_word := fun_mk (st := s_is_word) l12 c12 k12,
    b_is_word := (fun_mk (st := s_is_word) l12 c12 k12).binds (ps := ["thing"]) (fun _ _ _ _ _ _ us hl => match us, hl with | [_], _ => rfl),
    g_is_word := PySem.W.mg_of X G a12,
    a_is_item := f13,
    d_is_item := _,
    F_is_item := fun_mk (st := s_is_item) l13 c13 k13,
    b_is_item := (fun_mk (st := s_is_item) l13 c13 k13).binds (ps := ["thing"]) (fun _ _ _ _ _ _ us hl => match us, hl with | [_], _ => rfl),
    g_is_item := PySem.W.mg_of X G a13,
    a_is_row := f14,
    d_is_row := _,
    F_is_row := fun_mk (st := s_is_row) l14 c14 k14,
    b_is_row := (fun_mk (st := s_is_row) l14 c14 k14).binds (ps := ["low", "high", "thing"]) (fun _ _ _ _ _ _ us hl => match us, hl with | [_, _, _], _ => rfl),
    g_is_row := PySem.W.mg_of X G a14,
    a_is_content := f15,
    d_is_content := _,
    F_is_content := fun_mk (st := s_is_content) l15 c15 k15,
    b_is_content := (fun_mk (st := s_is_content) l15 c15 k15).binds (ps := ["thing"]) (fun _ _ _ _ _ _ us hl => match us, hl with | [_], _ => rfl),
    g_is_content := PySem.W.mg_of X G a15,
    a_Disk_write := f16,
    d_Disk_write := _,
    F_Disk_write := fun_mk (st := s_Disk_write) l16 c16 k16,
    b_Disk_write := (fun_mk (st := s_Disk_write) l16 c16 k16).binds (ps := ["self", "block", "content"]) (fun _ _ _ _ _ _ us hl => match us, hl with | [_, _, _], _ => rfl),
    a_law_reached := f17,
    d_law_reached := _,
    F_law_reached := fun_mk (st := s_law_reached) l17 c17 k17,
    b_law_reached := (fun_mk (st := s_law_reached) l17 c17 k17).binds (ps := ["book", "block"]) (fun _ _ _ _ _ _ us hl => match us, hl with | [_, _], _ => rfl),
    g_law_reached := PySem.W.mg_of X G a17,
    a_Disk_let_reach := f18,
    d_Disk_let_reach := _,
    F_Disk_let_reach := fun_mk (st := s_Disk_let_reach) l18 c18 k18,
    b_Disk_let_reach := (fun_mk (st := s_Disk_let_reach) l18 c18 k18).binds (ps := ["self", "block"]) (fun _ _ _ _ _ _ us hl => match us, hl with | [_, _], _ => rfl),
    a_Disk_reach := f19,
    d_Disk_reach := _,
    F_Disk_reach := fun_mk (st := s_Disk_reach) l19 c19 k19,
    b_Disk_reach := (fun_mk (st := s_Disk_reach) l19 c19 k19).binds (ps := ["self", "block"]) (fun _ _ _ _ _ _ us hl => match us, hl with | [_, _], _ => rfl),
    a_law_forced := f20,
    d_law_forced := _,
    F_law_forced := fun_mk (st := s_law_forced) l20 c20 k20,
    b_law_forced := (fun_mk (st := s_law_forced) l20 c20 k20).binds (ps := ["book", "lot"]) (fun _ _ _ _ _ _ us hl => match us, hl with | [_, _], _ => rfl),
    g_law_forced := PySem.W.mg_of X G a20,
    a_is_lot_below := f21,
    d_is_lot_below := _,
    F_is_lot_below := fun_mk (st := s_is_lot_below) l21 c21 k21,
    b_is_lot_below := (fun_mk (st := s_is_lot_below) l21 c21 k21).binds (ps := ["bound", "thing"]) (fun _ _ _ _ _ _ us hl => match us, hl with | [_, _], _ => rfl),
    g_is_lot_below := PySem.W.mg_of X G a21,
    a_Disk_force := f22,
    d_Disk_force := _,
    F_Disk_force := fun_mk (st := s_Disk_force) l22 c22 k22,
    b_Disk_force := (fun_mk (st := s_Disk_force) l22 c22 k22).binds (ps := ["self", "lot"]) (fun _ _ _ _ _ _ us hl => match us, hl with | [_, _], _ => rfl),
    a_Disk_calm := f23,
    d_Disk_calm := _,
    F_Disk_calm := fun_mk (st := s_Disk_calm) l23 c23 k23,
    b_Disk_calm := (fun_mk (st := s_Disk_calm) l23 c23 k23).binds (ps := ["self"]) (fun _ _ _ _ _ _ us hl => match us, hl with | [_], _ => rfl),
    a_Disk_power := f24,
    d_Disk_power := _,
    F_Disk_power := fun_mk (st := s_Disk_power) l24 c24 k24,
    b_Disk_power := (fun_mk (st := s_Disk_power) l24 c24 k24).binds (ps := ["self", "many"]) (fun _ _ _ _ _ _ us hl => match us, hl with | [_, _], _ => rfl),
    a_law_cut := f25,
    d_law_cut := _,
    F_law_cut := fun_mk (st := s_law_cut) l25 c25 k25,
    b_law_cut := (fun_mk (st := s_law_cut) l25 c25 k25).binds (ps := ["book"]) (fun _ _ _ _ _ _ us hl => match us, hl with | [_], _ => rfl),
    g_law_cut := PySem.W.mg_of X G a25,
    a_Disk_cut := f26,
    d_Disk_cut := _,
    F_Disk_cut := fun_mk (st := s_Disk_cut) l26 c26 k26,
    b_Disk_cut := (fun_mk (st := s_Disk_cut) l26 c26 k26).binds (ps := ["self"]) (fun _ _ _ _ _ _ us hl => match us, hl with | [_], _ => rfl),
    a_Disk_reached := f27,
    d_Disk_reached := _,
    F_Disk_reached := fun_mk (st := s_Disk_reached) l27 c27 k27,
    b_Disk_reached := (fun_mk (st := s_Disk_reached) l27 c27 k27).binds (ps := ["self"]) (fun _ _ _ _ _ _ us hl => match us, hl with | [_], _ => rfl),
    a_Disk_waiting := f28,
    d_Disk_waiting := _,
    F_Disk_waiting := fun_mk (st := s_Disk_waiting) l28 c28 k28,
    b_Disk_waiting := (fun_mk (st := s_Disk_waiting) l28 c28 k28).binds (ps := ["self"]) (fun _ _ _ _ _ _ us hl => match us, hl with | [_], _ => rfl),
    a_Disk_read := f29,
    d_Disk_read := _,
    F_Disk_read := fun_mk (st := s_Disk_read) l29 c29 k29,
    b_Disk_read := (fun_mk (st := s_Disk_read) l29 c29 k29).binds (ps := ["self", "block"]) (fun _ _ _ _ _ _ us hl => match us, hl with | [_, _], _ => rfl),
    a_Disk_lying := f30,
    d_Disk_lying := _,
    F_Disk_lying := fun_mk (st := s_Disk_lying) l30 c30 k30,
    b_Disk_lying := (fun_mk (st := s_Disk_lying) l30 c30 k30).binds (ps := ["self", "block"]) (fun _ _ _ _ _ _ us hl => match us, hl with | [_, _], _ => rfl),
    a_law_shows := f31,
    d_law_shows := _,
    F_law_shows := fun_mk (st := s_law_shows) l31 c31 k31,
    b_law_shows := (fun_mk (st := s_law_shows) l31 c31 k31).binds (ps := ["disk", "book", "some"]) (fun _ _ _ _ _ _ us hl => match us, hl with | [_, _, _], _ => rfl),
    g_law_shows := PySem.W.mg_of X G a31,
    c_law_deed := cc32,
    P_law_deed := He.tabOf K cc32,
    L_law_deed := ⟨_, _, _, _, _, _, _, _, rfl, l32, c32⟩,
    a_law_deed := f32,
    d_law_deed := _,
    F_law_deed := fun_mk (st := s_law_deed) l32 c32 k32,
    b_law_deed := (fun_mk (st := s_law_deed) l32 c32 k32).binds (ps := ["hand", "disk", "book", "some"]) (fun _ _ _ _ _ _ us hl => match us, hl with | [_, _, _, _], _ => rfl),
    g_law_deed := PySem.W.mg_of X G a32,
    a_Disk_copy := f33,
    d_Disk_copy := _,
    F_Disk_copy := fun_mk (st := s_Disk_copy) l33 c33 k33,
    b_Disk_copy := (fun_mk (st := s_Disk_copy) l33 c33 k33).binds (ps := ["self"]) (fun _ _ _ _ _ _ us hl => match us, hl with | [_], _ => rfl),
    a_law_copied := f34,
    d_law_copied := _,
    F_law_copied := fun_mk (st := s_law_copied) l34 c34 k34,
    b_law_copied := (fun_mk (st := s_law_copied) l34 c34 k34).binds (ps := ["hand", "disk", "book"]) (fun _ _ _ _ _ _ us hl => match us, hl with | [_, _, _], _ => rfl),
    g_law_copied := PySem.W.mg_of X G a34,
    a_law := fa,
    d_law := _,
    F_law := fun_mk (st := s_law) l35 c35 k35,
    b_law := (fun_mk (st := s_law) l35 c35 k35).binds (ps := ["script"]) (fun _ _ _ _ _ _ us hl => match us, hl with | [_], _ => rfl),
    g_law := PySem.W.mg_of X G a35,
    bl := fun s u => .of_eq rfl,
    cl_Disk := ⟨pg_Disk, hd_Disk, po_Disk, sa_Disk⟩,
    e_Stopped := ⟨ex_Stopped, PySem.W.mg_of X G aC_Stopped, ek_Stopped, es_Stopped, et_Stopped⟩,
    kb_Stopped_ValueError := kb_Stopped_ValueError,
    ec_Stopped := ⟨xg_Stopped, xk_Stopped, es_Stopped, xd_Stopped, xa_Stopped, xn_all, xt_all, xo_Stopped⟩,
    kt_Stopped_StoreError := kt_Stopped_StoreError,
    xm_Stopped_NothingWaits := exm_by es_NothingWaits ei_NothingWaits et_NothingWaits su_Stopped_NothingWaits,
    xm_Stopped_Stopped := exm_by es_Stopped ei_Stopped et_Stopped su_Stopped_Stopped,
    e_NothingWaits := ⟨ex_NothingWaits, PySem.W.mg_of X G aC_NothingWaits, ek_NothingWaits, es_NothingWaits, et_NothingWaits⟩,
    kb_NothingWaits_ValueError := kb_NothingWaits_ValueError,
    ec_NothingWaits := ⟨xg_NothingWaits, xk_NothingWaits, es_NothingWaits, xd_NothingWaits, xa_NothingWaits, xn_all, xt_all, xo_NothingWaits⟩,
    kt_NothingWaits_StoreError := kt_NothingWaits_StoreError,
    xm_NothingWaits_NothingWaits := exm_by es_NothingWaits ei_NothingWaits et_NothingWaits su_NothingWaits_NothingWaits,
    xm_NothingWaits_Stopped := exm_by es_Stopped ei_Stopped et_Stopped su_NothingWaits_Stopped,
    e_StoreError := ⟨ex_StoreError, PySem.W.mg_of X G aC_StoreError, ek_StoreError, es_StoreError, et_StoreError⟩,
    kb_StoreError_ValueError := kb_StoreError_ValueError,
    ec_StoreError := ⟨xg_StoreError, xk_StoreError, es_StoreError, xd_StoreError, xa_StoreError, xn_all, xt_all, xo_StoreError⟩,
    kt_StoreError_StoreError := kt_StoreError_StoreError,
    xm_StoreError_NothingWaits := exm_by es_NothingWaits ei_NothingWaits et_NothingWaits su_StoreError_NothingWaits,
    xm_StoreError_Stopped := exm_by es_Stopped ei_Stopped et_Stopped su_StoreError_Stopped,
    M_Disk := ⟨mk_Disk, a4, i4, kc_Disk⟩,
    gC_Disk := PySem.W.mg_of X G aC_Disk,
    me_Disk_blocks := ⟨a10, i10, k10⟩,
    me_Disk_demand_block := ⟨a11, i11, k11⟩,
    me_Disk_write := ⟨a16, i16, k16⟩,
    me_Disk_let_reach := ⟨a18, i18, k18⟩,
    me_Disk_reach := ⟨a19, i19, k19⟩,
    me_Disk_force := ⟨a22, i22, k22⟩,
    me_Disk_calm := ⟨a23, i23, k23⟩,
    me_Disk_power := ⟨a24, i24, k24⟩,
    me_Disk_cut := ⟨a26, i26, k26⟩,
    me_Disk_reached := ⟨a27, i27, k27⟩,
    me_Disk_waiting := ⟨a28, i28, k28⟩,
    me_Disk_read := ⟨a29, i29, k29⟩,
    me_Disk_lying := ⟨a30, i30, k30⟩,
    me_Disk_copy := ⟨a33, i33, k33⟩,
    nf_arrived_Disk := nf_arrived_Disk,
    nf_cached_Disk := nf_cached_Disk,
    nf_contents_Disk := nf_contents_Disk,
    nf_left_Disk := nf_left_Disk,
    t_FEWEST_BLOCKS := t_FEWEST_BLOCKS,
    c_FEWEST_BLOCKS := PySem.W.mg_of X G co_FEWEST_BLOCKS,
    t_GREATEST_ITEM := t_GREATEST_ITEM,
    c_GREATEST_ITEM := PySem.W.mg_of X G co_GREATEST_ITEM,
    t_LONGEST_CONTENT := t_LONGEST_CONTENT,
    c_LONGEST_CONTENT := PySem.W.mg_of X G co_LONGEST_CONTENT,
    t_LONGEST_WORD := t_LONGEST_WORD,
    c_LONGEST_WORD := PySem.W.mg_of X G co_LONGEST_WORD,
    t_MOST_BLOCKS := t_MOST_BLOCKS,
    c_MOST_BLOCKS := PySem.W.mg_of X G co_MOST_BLOCKS,
    t_MOST_POWER := t_MOST_POWER,
    c_MOST_POWER := PySem.W.mg_of X G co_MOST_POWER,
    z_ValueError := PySem.W.mg_none_of X G zb_ValueError,
    z_abs := PySem.W.mg_none_of X G zb_abs,
    z_all := PySem.W.mg_none_of X G zb_all,
    z_bool := PySem.W.mg_none_of X G zb_bool,
    z_dict := PySem.W.mg_none_of X G zb_dict,
    z_int := PySem.W.mg_none_of X G zb_int,
    z_isinstance := PySem.W.mg_none_of X G zb_isinstance,
    z_len := PySem.W.mg_none_of X G zb_len,
    z_list := PySem.W.mg_none_of X G zb_list,
    z_range := PySem.W.mg_none_of X G zb_range,
    z_set := PySem.W.mg_none_of X G zb_set,
    z_sorted := PySem.W.mg_none_of X G zb_sorted,
    z_str := PySem.W.mg_none_of X G zb_str,
    z_tuple := PySem.W.mg_none_of X G zb_tuple }, rfl, (by intro p hp; simp only [Tx.cs, List.mem_cons, List.not_mem_nil, or_false] at hp; rcases hp with rfl <;> first | exact tc32), (by intro p hp; simp only [Tx.cs, List.mem_cons, List.not_mem_nil, or_false] at hp; rcases hp with rfl <;> first | exact tn32), (by intro p hp; simp only [Tx.cs, List.mem_cons, List.not_mem_nil, or_false] at hp; rcases hp with rfl <;> first | exact (List.contains_iff_mem.mp tm32))⟩
end Lw
namespace Lw
open PySem L2 Mi
def Up (h : Nat) (st s : Sto) : Prop := st.length ≤ s.length ∧ ∀ (i : Nat) (n : Nd), i ≠ h → st[i]? = some n → s[i]? = some n
def Ext (st s : Sto) : Prop := st.length ≤ s.length ∧ ∀ (i : Nat) (n : Nd), st[i]? = some n → s[i]? = some n
theorem Up.refl {h : Nat} {st : Sto} : Up h st st := ⟨Nat.le_refl _, fun _ _ _ z => z⟩
theorem Up.trans {h : Nat} {a b c : Sto} (x : Up h a b) (y : Up h b c) : Up h a c := ⟨Nat.le_trans x.1 y.1, fun i n k z => y.2 i n k (x.2 i n k z)⟩
theorem Ext.refl {st : Sto} : Ext st st := ⟨Nat.le_refl _, fun _ _ z => z⟩
theorem Ext.trans {a b c : Sto} (x : Ext a b) (y : Ext b c) : Ext a c := ⟨Nat.le_trans x.1 y.1, fun i n z => y.2 i n (x.2 i n z)⟩
theorem Ext.up {h : Nat} {a b : Sto} (x : Ext a b) : Up h a b := ⟨x.1, fun i n _ z => x.2 i n z⟩
theorem Ext.app {a t : Sto} : Ext a (a ++ t) := ⟨by simp, fun i n z => by
  rw [List.getElem?_append_left (List.getElem?_eq_some_iff.mp z).1]; exact z⟩
theorem Up.set {h : Nat} {a : Sto} {n : Nd} : Up h a (a.set h n) := ⟨by simp, fun i m k z => by rw [List.getElem?_set_ne (fun e => k e.symm)]; exact z⟩
/-- a place behind st changes -/
theorem Ext.set {a s : Sto} {p : Nat} {n : Nd} (x : Ext a s) (hp : a.length ≤ p) : Ext a (s.set p n) := ⟨by simp; exact x.1, fun i m z => by
  have := (List.getElem?_eq_some_iff.mp z).1
  rw [List.getElem?_set_ne (by omega)]; exact x.2 i m z⟩
theorem get_setp {s : Sto} {p : Nat} {n m : Nd} (e : s[p]? = some m) : (s.set p n)[p]? = some n := by
  have := (List.getElem?_eq_some_iff.mp e).1
  simp [this]
theorem get_setn {s : Sto} {p q : Nat} {n : Nd} (h : p ≠ q) : (s.set p n)[q]? = s[q]? := List.getElem?_set_ne h
theorem get_new {s : Sto} {n : Nd} : (s ++ [n])[s.length]? = some n := by simp
theorem get_old {s : Sto} {n m : Nd} {i : Nat} (e : s[i]? = some m) : (s ++ [n])[i]? = some m := by
  rw [List.getElem?_append_left (List.getElem?_eq_some_iff.mp e).1]; exact e
theorem lt_of_get {s : Sto} {i : Nat} {m : Nd} (e : s[i]? = some m) : i < s.length := (List.getElem?_eq_some_iff.mp e).1
/-! the hand -/
def BagN (cs : List Int) (a : Nat) (b c e : Int) : Nd := .lst [.lst (cs.map W.int), .int (a : Int), .int b, .int c, .int e]
def Bg (h : Nat) (st : Sto) : Prop := ∃ cs a b c e, st[h]? = some (BagN cs a b c e)
theorem Bg.ext {h : Nat} {a b : Sto} (x : Ext a b) (g : Bg h a) : Bg h b := by
  obtain ⟨cs, i, j, k, l, e⟩ := g
  exact ⟨cs, i, j, k, l, x.2 h _ e⟩
theorem Bg.new {h : Nat} {st : Sto} {n : Nd} (g : Bg h st) : Bg h (st ++ [n]) := g.ext Ext.app
theorem Bg.set {h p : Nat} {st : Sto} {n : Nd} (g : Bg h st) (k : p ≠ h) : Bg h (st.set p n) := by
  obtain ⟨cs, i, j, l, m, e⟩ := g
  exact ⟨cs, i, j, l, m, by rw [get_setn k]; exact e⟩
theorem Bg.at {h : Nat} {st s : Sto} (g : Bg h st) (k : s[h]? = st[h]?) : Bg h s := by
  obtain ⟨cs, i, j, l, m, e⟩ := g
  exact ⟨cs, i, j, l, m, k.trans e⟩
theorem Bg.lt {h : Nat} {st : Sto} (g : Bg h st) : h < st.length := by
  obtain ⟨_, _, _, _, _, e⟩ := g
  exact lt_of_get e
section
variable {h : Nat} {st : Sto} {cs : List Int} {a : Nat} {b c d : Int} {P : W → Sto → Prop} {E : Xc → Sto → Prop} {PU : Unit → Sto → Prop}
theorem bag0 (e : st[h]? = some (BagN cs a b c d)) : wp (wIx (.ref h) (.int 0) st) P E ↔ P (.lst (cs.map W.int)) st := wp_ixR (n := 0) e rfl
theorem bag1 (e : st[h]? = some (BagN cs a b c d)) : wp (wIx (.ref h) (.int 1) st) P E ↔ P (.int a) st := wp_ixR (n := 1) e rfl
theorem bag2 (e : st[h]? = some (BagN cs a b c d)) : wp (wIx (.ref h) (.int 2) st) P E ↔ P (.int b) st := wp_ixR (n := 2) e rfl
theorem bag3 (e : st[h]? = some (BagN cs a b c d)) : wp (wIx (.ref h) (.int 3) st) P E ↔ P (.int c) st := wp_ixR (n := 3) e rfl
theorem bag4 (e : st[h]? = some (BagN cs a b c d)) : wp (wIx (.ref h) (.int 4) st) P E ↔ P (.int d) st := wp_ixR (n := 4) e rfl
theorem set_k {st : Sto} {h : Nat} {xs : List W} {n : Nat} {w : W} (e : st[h]? = some (.lst xs)) (k : n < xs.length) : wStore (.ref h) (.int (n : Int)) w st = some (st.set h (.lst (xs.set n w))) := by
  simp [wStore, wSet, e, ixN, k]
theorem bagw1 {x : Nat} (e : st[h]? = some (BagN cs a b c d)) : wp (stR (.ref h) (.int 1) (.int ((x : Int) + 1)) st) PU E ↔ PU () (st.set h (BagN cs (x + 1) b c d)) := wp_stR (by
  have := set_k (n := 1) (w := .int ((x + 1 : Nat) : Int)) e (by simp)
  simpa [BagN] using this)
theorem bagw2 {x : Int} (e : st[h]? = some (BagN cs a b c d)) : wp (stR (.ref h) (.int 2) (.int x) st) PU E ↔ PU () (st.set h (BagN cs a x c d)) := wp_stR (by
  have := set_k (n := 2) (w := .int x) e (by simp)
  simpa [BagN] using this)
theorem bagw3 {x : Int} (e : st[h]? = some (BagN cs a b c d)) : wp (stR (.ref h) (.int 3) (.int x) st) PU E ↔ PU () (st.set h (BagN cs a b x d)) := wp_stR (by
  have := set_k (n := 3) (w := .int x) e (by simp)
  simpa [BagN] using this)
theorem bagw4 {x : Int} (e : st[h]? = some (BagN cs a b c d)) : wp (stR (.ref h) (.int 4) (.int x) st) PU E ↔ PU () (st.set h (BagN cs a b c x)) := wp_stR (by
  have := set_k (n := 4) (w := .int x) e (by simp)
  simpa [BagN] using this)
end
theorem small_of {i : Int} (a : 0 ≤ i) (b : i < 18446744073709551616) : Mi.small64 i = true := by
  simp only [Mi.small64, decide_eq_true_eq]; omega
/-- a draw -/
theorem draw1 {h : Nat} {st : Sto} {m : Int} (g : Bg h st) (h0 : 0 < m) (h1 : m < 1073741824) : wp (r_law_draw [.ref h, .int m] st) (fun w s => ∃ (x : Int) (n : Nd), w = .int x ∧ 0 ≤ x ∧ x < m ∧ s = st.set h n ∧ Bg h s) NoE := by
  obtain ⟨cs, a, b, c, d, e⟩ := g
  have hm : m ≠ 0 := by omega
  have hm2 : m.natAbs < 1073741824 := by omega
  have hb : ∀ {n : Nd} {s : Sto} {cs a b c d}, s[h]? = some n → Bg h (s.set h (BagN cs a b c d)) := fun q => ⟨_, _, _, _, _, get_setp q⟩
  have hf : ∀ {x : Int} {n : Nd} {s : Sto}, s = st.set h n → Bg h s → ∃ (y : Int) (n' : Nd), W.int (x.fmod m) = W.int y ∧ 0 ≤ y ∧ y < m ∧ s = st.set h n' ∧ Bg h s := fun q q2 => ⟨_, _, rfl, Int.fmod_nonneg_of_pos _ h0, Int.fmod_lt_of_pos _ h0, q, q2⟩
  have f := fun x : Int => small_of (Int.fmod_nonneg_of_pos x (by decide : (0 : Int) < 2147483647)) (Int.lt_trans (Int.fmod_lt_of_pos x (by decide : (0 : Int) < 2147483647)) (by decide))
  have s1 : Mi.small64 7919 = true := rfl
  have s2 : Mi.small64 48271 = true := rfl
  have s3 : Mi.small64 69621 = true := rfl
  have self : st = st.set h (BagN cs a b c d) := (List.ext_getElem? fun j => by
    by_cases q : h = j
    · subst q; rw [get_setp e]; exact e
    · rw [get_setn q])
  simp only [r_law_draw, m_law_draw]
  rw [wp_run]
  simp only [List.map, List.length, List.replicate, List.cons_append, List.nil_append, Nat.reduceAdd, Nat.reduceSub]
  rw [ws_seq]
  refine ws_nx (N := fun v s => ∃ (o : Option W) (a : Nat) (b c d : Int) (n : Nd), v = [some (.ref h), some (.int m), o, none, none] ∧ s = st.set h n ∧ s[h]? = some (BagN cs a b c d)) ?_ ?_
  · have stay : ∃ (o : Option W) (a : Nat) (b c d : Int) (n : Nd), [some (W.ref h), some (.int m), none, none, none] = [some (.ref h), some (.int m), o, none, none] ∧ st = st.set h n ∧ st[h]? = some (BagN cs a b c d) := ⟨none, a, b, c, d, _, rfl, self, e⟩
    simp only [ws_seq, ws_if, ws_set, ws_sub, ws_ret, ws_retN, ws_expr, ws_sNx, ws_for, wp_op, wp_var0, wp_varS, wp_c, wp_mB, wp_toB, wp_tr, wp_trB_bl, wp_trB_non, wp_trB_int, wp_not, wp_and, wp_or, wp_if, wp_mBl, wp_nil, wp_cons, wp_tup, wp_lst, wp_lstS, wp_newL_t, wp_newL_f, wp_chain, wp_call, wp_fn, wp_sl, wp_noPart, wp_part, wp_comp, wp_yes, wp_iL, wp_iA, wp_srcL, wp_srcS, wp_srcAL, wp_srcAT, wp_iR1, wp_iR2, wp_rng1, wp_rng2, wp_iRv, wp_srcRL, wp_srcRT, wp_iEA, wp_srcEL, wp_srcET, wp_add, wp_sub, wp_mul, wp_mod, wp_div, wp_divW, wp_pow18, wp_pow17, wp_pow16, wp_pow30, wp_eqI, wp_neI, wp_cmpI, wp_isN, wp_isNotN, wp_lenL, wp_lenT, wp_abs, wp_int, wp_min2, wp_max2, wp_listL, wp_listT, wp_tupleL, wp_tupleT, wp_ixT0, wp_ixT1, wp_ixL0, wp_neg, wp_ok, wp_srcEL, wp_isB, wp_isNotB, wp_eqB, wp_neB, wp_all, wp_any, wp_slT, wp_slL, wp_rev, wp_revT, wp_revL, wp_disp, wp_pair, wp_pair0, wp_dict0, wipeW, List.foldl_cons, List.foldl_nil, wp_run, List.map, List.length, List.replicate, List.cons_append, List.nil_append, List.append_nil, List.set_cons_zero, List.set_cons_succ, if_true, if_false, Bool.not_true, Bool.not_false, Bool.true_eq_false, Bool.false_eq_true, Nat.reduceAdd, Nat.reduceSub, gName', bag2 e, decide_eq_true_eq]
    split
    · simp only [ws_seq, ws_if, ws_set, ws_sub, ws_ret, ws_retN, ws_expr, ws_sNx, ws_for, wp_op, wp_var0, wp_varS, wp_c, wp_mB, wp_toB, wp_tr, wp_trB_bl, wp_trB_non, wp_trB_int, wp_not, wp_and, wp_or, wp_if, wp_mBl, wp_nil, wp_cons, wp_tup, wp_lst, wp_lstS, wp_newL_t, wp_newL_f, wp_chain, wp_call, wp_fn, wp_sl, wp_noPart, wp_part, wp_comp, wp_yes, wp_iL, wp_iA, wp_srcL, wp_srcS, wp_srcAL, wp_srcAT, wp_iR1, wp_iR2, wp_rng1, wp_rng2, wp_iRv, wp_srcRL, wp_srcRT, wp_iEA, wp_srcEL, wp_srcET, wp_add, wp_sub, wp_mul, wp_mod, wp_div, wp_divW, wp_pow18, wp_pow17, wp_pow16, wp_pow30, wp_eqI, wp_neI, wp_cmpI, wp_isN, wp_isNotN, wp_lenL, wp_lenT, wp_abs, wp_int, wp_min2, wp_max2, wp_listL, wp_listT, wp_tupleL, wp_tupleT, wp_ixT0, wp_ixT1, wp_ixL0, wp_neg, wp_ok, wp_srcEL, wp_isB, wp_isNotB, wp_eqB, wp_neB, wp_all, wp_any, wp_slT, wp_slL, wp_rev, wp_revT, wp_revL, wp_disp, wp_pair, wp_pair0, wp_dict0, wipeW, List.foldl_cons, List.foldl_nil, wp_run, List.map, List.length, List.replicate, List.cons_append, List.nil_append, List.append_nil, List.set_cons_zero, List.set_cons_succ, if_true, if_false, Bool.not_true, Bool.not_false, Bool.true_eq_false, Bool.false_eq_true, Nat.reduceAdd, Nat.reduceSub, gName', bag1 e, bag0 e, List.length_map, decide_eq_true_eq]
      split
      · rename_i hl
        obtain ⟨cell, hcell⟩ : ∃ cell, cs[a]? = some cell := ⟨_, List.getElem?_eq_getElem (by omega)⟩
        have e2 : (cs.map W.int)[a]? = some (.int cell) := by rw [List.getElem?_map, hcell]; rfl
        have e3 := get_setp (n := BagN cs (a + 1) b c d) e
        have e4 : ∀ x, ((st.set h (BagN cs (a + 1) b c d)).set h (BagN cs (a + 1) b x d))[h]? = some (BagN cs (a + 1) b x d) := fun x => get_setp e3
        rw [wp_ixL e2]
        simp only [ws_seq, ws_if, ws_set, ws_sub, ws_ret, ws_retN, ws_expr, ws_sNx, ws_for, wp_op, wp_var0, wp_varS, wp_c, wp_mB, wp_toB, wp_tr, wp_trB_bl, wp_trB_non, wp_trB_int, wp_not, wp_and, wp_or, wp_if, wp_mBl, wp_nil, wp_cons, wp_tup, wp_lst, wp_lstS, wp_newL_t, wp_newL_f, wp_chain, wp_call, wp_fn, wp_sl, wp_noPart, wp_part, wp_comp, wp_yes, wp_iL, wp_iA, wp_srcL, wp_srcS, wp_srcAL, wp_srcAT, wp_iR1, wp_iR2, wp_rng1, wp_rng2, wp_iRv, wp_srcRL, wp_srcRT, wp_iEA, wp_srcEL, wp_srcET, wp_add, wp_sub, wp_mul, wp_mod, wp_div, wp_divW, wp_pow18, wp_pow17, wp_pow16, wp_pow30, wp_eqI, wp_neI, wp_cmpI, wp_isN, wp_isNotN, wp_lenL, wp_lenT, wp_abs, wp_int, wp_min2, wp_max2, wp_listL, wp_listT, wp_tupleL, wp_tupleT, wp_ixT0, wp_ixT1, wp_ixL0, wp_neg, wp_ok, wp_srcEL, wp_isB, wp_isNotB, wp_eqB, wp_neB, wp_all, wp_any, wp_slT, wp_slL, wp_rev, wp_revT, wp_revL, wp_disp, wp_pair, wp_pair0, wp_dict0, wipeW, List.foldl_cons, List.foldl_nil, wp_run, List.map, List.length, List.replicate, List.cons_append, List.nil_append, List.append_nil, List.set_cons_zero, List.set_cons_succ, if_true, if_false, Bool.not_true, Bool.not_false, Bool.true_eq_false, Bool.false_eq_true, Nat.reduceAdd, Nat.reduceSub, gName', bag1 e, bagw1 e, bag3 e3, bagw3 e3, s3, Bool.or_true, true_and, decide_eq_true_eq, ne_eq]
        refine ⟨by decide, ?_⟩
        split
        · simp only [ws_seq, ws_if, ws_set, ws_sub, ws_ret, ws_retN, ws_expr, ws_sNx, ws_for, wp_op, wp_var0, wp_varS, wp_c, wp_mB, wp_toB, wp_tr, wp_trB_bl, wp_trB_non, wp_trB_int, wp_not, wp_and, wp_or, wp_if, wp_mBl, wp_nil, wp_cons, wp_tup, wp_lst, wp_lstS, wp_newL_t, wp_newL_f, wp_chain, wp_call, wp_fn, wp_sl, wp_noPart, wp_part, wp_comp, wp_yes, wp_iL, wp_iA, wp_srcL, wp_srcS, wp_srcAL, wp_srcAT, wp_iR1, wp_iR2, wp_rng1, wp_rng2, wp_iRv, wp_srcRL, wp_srcRT, wp_iEA, wp_srcEL, wp_srcET, wp_add, wp_sub, wp_mul, wp_mod, wp_div, wp_divW, wp_pow18, wp_pow17, wp_pow16, wp_pow30, wp_eqI, wp_neI, wp_cmpI, wp_isN, wp_isNotN, wp_lenL, wp_lenT, wp_abs, wp_int, wp_min2, wp_max2, wp_listL, wp_listT, wp_tupleL, wp_tupleT, wp_ixT0, wp_ixT1, wp_ixL0, wp_neg, wp_ok, wp_srcEL, wp_isB, wp_isNotB, wp_eqB, wp_neB, wp_all, wp_any, wp_slT, wp_slL, wp_rev, wp_revT, wp_revL, wp_disp, wp_pair, wp_pair0, wp_dict0, wipeW, List.foldl_cons, List.foldl_nil, wp_run, List.map, List.length, List.replicate, List.cons_append, List.nil_append, List.append_nil, List.set_cons_zero, List.set_cons_succ, if_true, if_false, Bool.not_true, Bool.not_false, Bool.true_eq_false, Bool.false_eq_true, Nat.reduceAdd, Nat.reduceSub, gName', bagw2 (e4 _)]
          exact ⟨_, _, _, _, _, _, rfl, by rw [List.set_set, List.set_set], get_setp (e4 _)⟩
        · exact ⟨_, _, _, _, _, _, rfl, by rw [List.set_set], e4 _⟩
      · exact stay
    · exact stay
  · rintro v s ⟨o, a, b, c, d, n, rfl, rfl, e⟩
    simp only [ws_seq, ws_if, ws_set, ws_sub, ws_ret, ws_retN, ws_expr, ws_sNx, ws_for, wp_op, wp_var0, wp_varS, wp_c, wp_mB, wp_toB, wp_tr, wp_trB_bl, wp_trB_non, wp_trB_int, wp_not, wp_and, wp_or, wp_if, wp_mBl, wp_nil, wp_cons, wp_tup, wp_lst, wp_lstS, wp_newL_t, wp_newL_f, wp_chain, wp_call, wp_fn, wp_sl, wp_noPart, wp_part, wp_comp, wp_yes, wp_iL, wp_iA, wp_srcL, wp_srcS, wp_srcAL, wp_srcAT, wp_iR1, wp_iR2, wp_rng1, wp_rng2, wp_iRv, wp_srcRL, wp_srcRT, wp_iEA, wp_srcEL, wp_srcET, wp_add, wp_sub, wp_mul, wp_mod, wp_div, wp_divW, wp_pow18, wp_pow17, wp_pow16, wp_pow30, wp_eqI, wp_neI, wp_cmpI, wp_isN, wp_isNotN, wp_lenL, wp_lenT, wp_abs, wp_int, wp_min2, wp_max2, wp_listL, wp_listT, wp_tupleL, wp_tupleT, wp_ixT0, wp_ixT1, wp_ixL0, wp_neg, wp_ok, wp_srcEL, wp_isB, wp_isNotB, wp_eqB, wp_neB, wp_all, wp_any, wp_slT, wp_slL, wp_rev, wp_revT, wp_revL, wp_disp, wp_pair, wp_pair0, wp_dict0, wipeW, List.foldl_cons, List.foldl_nil, wp_run, List.map, List.length, List.replicate, List.cons_append, List.nil_append, List.append_nil, List.set_cons_zero, List.set_cons_succ, if_true, if_false, Bool.not_true, Bool.not_false, Bool.true_eq_false, Bool.false_eq_true, Nat.reduceAdd, Nat.reduceSub, gName', bag2 e, decide_eq_true_eq]
    split
    · simp only [ws_seq, ws_if, ws_set, ws_sub, ws_ret, ws_retN, ws_expr, ws_sNx, ws_for, wp_op, wp_var0, wp_varS, wp_c, wp_mB, wp_toB, wp_tr, wp_trB_bl, wp_trB_non, wp_trB_int, wp_not, wp_and, wp_or, wp_if, wp_mBl, wp_nil, wp_cons, wp_tup, wp_lst, wp_lstS, wp_newL_t, wp_newL_f, wp_chain, wp_call, wp_fn, wp_sl, wp_noPart, wp_part, wp_comp, wp_yes, wp_iL, wp_iA, wp_srcL, wp_srcS, wp_srcAL, wp_srcAT, wp_iR1, wp_iR2, wp_rng1, wp_rng2, wp_iRv, wp_srcRL, wp_srcRT, wp_iEA, wp_srcEL, wp_srcET, wp_add, wp_sub, wp_mul, wp_mod, wp_div, wp_divW, wp_pow18, wp_pow17, wp_pow16, wp_pow30, wp_eqI, wp_neI, wp_cmpI, wp_isN, wp_isNotN, wp_lenL, wp_lenT, wp_abs, wp_int, wp_min2, wp_max2, wp_listL, wp_listT, wp_tupleL, wp_tupleT, wp_ixT0, wp_ixT1, wp_ixL0, wp_neg, wp_ok, wp_srcEL, wp_isB, wp_isNotB, wp_eqB, wp_neB, wp_all, wp_any, wp_slT, wp_slL, wp_rev, wp_revT, wp_revL, wp_disp, wp_pair, wp_pair0, wp_dict0, wipeW, List.foldl_cons, List.foldl_nil, wp_run, List.map, List.length, List.replicate, List.cons_append, List.nil_append, List.append_nil, List.set_cons_zero, List.set_cons_succ, if_true, if_false, Bool.not_true, Bool.not_false, Bool.true_eq_false, Bool.false_eq_true, Nat.reduceAdd, Nat.reduceSub, gName', bag2 e, bagw2 e, hm, hm2, true_and, and_true, ne_eq, not_false_eq_true]
      exact hf (by rw [List.set_set]) (hb e)
    · have e3 := get_setp (n := BagN cs a b c (d + 1)) e
      simp only [ws_seq, ws_if, ws_set, ws_sub, ws_ret, ws_retN, ws_expr, ws_sNx, ws_for, wp_op, wp_var0, wp_varS, wp_c, wp_mB, wp_toB, wp_tr, wp_trB_bl, wp_trB_non, wp_trB_int, wp_not, wp_and, wp_or, wp_if, wp_mBl, wp_nil, wp_cons, wp_tup, wp_lst, wp_lstS, wp_newL_t, wp_newL_f, wp_chain, wp_call, wp_fn, wp_sl, wp_noPart, wp_part, wp_comp, wp_yes, wp_iL, wp_iA, wp_srcL, wp_srcS, wp_srcAL, wp_srcAT, wp_iR1, wp_iR2, wp_rng1, wp_rng2, wp_iRv, wp_srcRL, wp_srcRT, wp_iEA, wp_srcEL, wp_srcET, wp_add, wp_sub, wp_mul, wp_mod, wp_div, wp_divW, wp_pow18, wp_pow17, wp_pow16, wp_pow30, wp_eqI, wp_neI, wp_cmpI, wp_isN, wp_isNotN, wp_lenL, wp_lenT, wp_abs, wp_int, wp_min2, wp_max2, wp_listL, wp_listT, wp_tupleL, wp_tupleT, wp_ixT0, wp_ixT1, wp_ixL0, wp_neg, wp_ok, wp_srcEL, wp_isB, wp_isNotB, wp_eqB, wp_neB, wp_all, wp_any, wp_slT, wp_slL, wp_rev, wp_revT, wp_revL, wp_disp, wp_pair, wp_pair0, wp_dict0, wipeW, List.foldl_cons, List.foldl_nil, wp_run, List.map, List.length, List.replicate, List.cons_append, List.nil_append, List.append_nil, List.set_cons_zero, List.set_cons_succ, if_true, if_false, Bool.not_true, Bool.not_false, Bool.true_eq_false, Bool.false_eq_true, Nat.reduceAdd, Nat.reduceSub, gName', bag4 e, bagw4 e, bag3 e3, bag4 e3, hm, s1, s2, Bool.true_or, Bool.or_true, true_and, and_true, ne_eq, not_false_eq_true, f]
      refine ⟨by decide, ⟨by decide, by decide⟩, ?_⟩
      exact ⟨by decide, ⟨by decide, by decide⟩, by decide, ⟨by decide, by decide⟩, hf (by rw [List.set_set]) (hb e)⟩
end Lw
namespace Lw
open PySem L2 Mi
theorem Up.hd {h : Nat} {st : Sto} {n : Nd} : Up h st (st.set h n) := Up.set
theorem hand_ok (ns : List Int) (hl : ns.length ≤ 63) (st : Sto) : wp (r_law_hand [.scr (ns.map W.int)] st) (fun w s => w = .ref st.length ∧ (∀ (i : Nat) (n : Nd), st[i]? = some n → s[i]? = some n) ∧ Bg st.length s) NoE := by
  simp only [r_law_hand, m_law_hand]
  simp only [ws_seq, ws_if, ws_set, ws_sub, ws_ret, ws_retN, ws_expr, ws_sNx, ws_for, wp_op, wp_var0, wp_varS, wp_c, wp_mB, wp_toB, wp_tr, wp_trB_bl, wp_trB_non, wp_trB_int, wp_not, wp_and, wp_or, wp_if, wp_mBl, wp_nil, wp_cons, wp_tup, wp_lst, wp_lstS, wp_newL_t, wp_newL_f, wp_chain, wp_call, wp_fn, wp_sl, wp_noPart, wp_part, wp_comp, wp_yes, wp_iL, wp_iA, wp_srcL, wp_srcS, wp_srcAL, wp_srcAT, wp_iR1, wp_iR2, wp_rng1, wp_rng2, wp_iRv, wp_srcRL, wp_srcRT, wp_iEA, wp_srcEL, wp_srcET, wp_add, wp_sub, wp_mul, wp_mod, wp_div, wp_divW, wp_pow18, wp_pow17, wp_pow16, wp_pow30, wp_eqI, wp_neI, wp_cmpI, wp_isN, wp_isNotN, wp_lenL, wp_lenT, wp_abs, wp_int, wp_min2, wp_max2, wp_listL, wp_listT, wp_tupleL, wp_tupleT, wp_ixT0, wp_ixT1, wp_ixL0, wp_neg, wp_ok, wp_srcEL, wp_isB, wp_isNotB, wp_eqB, wp_neB, wp_all, wp_any, wp_slT, wp_slL, wp_rev, wp_revT, wp_revL, wp_disp, wp_pair, wp_pair0, wp_dict0, wipeW, List.foldl_cons, List.foldl_nil, wp_run, List.map, List.length, List.replicate, List.cons_append, List.nil_append, List.append_nil, List.set_cons_zero, List.set_cons_succ, if_true, if_false, Bool.not_true, Bool.not_false, Bool.true_eq_false, Bool.false_eq_true, Nat.reduceAdd, Nat.reduceSub, gName', wp_cut63]
  refine compS_fix (fun i acc s => s = st ∧ acc.length = i ∧ ∃ cs : List Int, acc = cs.map W.int) ⟨rfl, rfl, [], rfl⟩ (by simp [sizeLine]; omega) (fun i acc s z => by omega) (fun i w e acc s z => ?_) (fun acc s z => ?_)
  · obtain ⟨rfl, rfl, cs, rfl⟩ := z
    have e' : ∃ c : Int, w = .int c := by
      rw [List.getElem?_take] at e
      split at e
      · rw [List.getElem?_map] at e
        cases q : ns[(cs.map W.int).length]? with
        | none => rw [q] at e; simp at e
        | some c => rw [q] at e; simp at e; exact ⟨c, e.symm⟩
      · simp at e
    obtain ⟨c, rfl⟩ := e'
    refine ⟨_, rfl, ?_⟩
    simp only [ws_seq, ws_if, ws_set, ws_sub, ws_ret, ws_retN, ws_expr, ws_sNx, ws_for, wp_op, wp_var0, wp_varS, wp_c, wp_mB, wp_toB, wp_tr, wp_trB_bl, wp_trB_non, wp_trB_int, wp_not, wp_and, wp_or, wp_if, wp_mBl, wp_nil, wp_cons, wp_tup, wp_lst, wp_lstS, wp_newL_t, wp_newL_f, wp_chain, wp_call, wp_fn, wp_sl, wp_noPart, wp_part, wp_comp, wp_yes, wp_iL, wp_iA, wp_srcL, wp_srcS, wp_srcAL, wp_srcAT, wp_iR1, wp_iR2, wp_rng1, wp_rng2, wp_iRv, wp_srcRL, wp_srcRT, wp_iEA, wp_srcEL, wp_srcET, wp_add, wp_sub, wp_mul, wp_mod, wp_div, wp_divW, wp_pow18, wp_pow17, wp_pow16, wp_pow30, wp_eqI, wp_neI, wp_cmpI, wp_isN, wp_isNotN, wp_lenL, wp_lenT, wp_abs, wp_int, wp_min2, wp_max2, wp_listL, wp_listT, wp_tupleL, wp_tupleT, wp_ixT0, wp_ixT1, wp_ixL0, wp_neg, wp_ok, wp_srcEL, wp_isB, wp_isNotB, wp_eqB, wp_neB, wp_all, wp_any, wp_slT, wp_slL, wp_rev, wp_revT, wp_revL, wp_disp, wp_pair, wp_pair0, wp_dict0, wipeW, List.foldl_cons, List.foldl_nil, wp_run, List.map, List.length, List.replicate, List.cons_append, List.nil_append, List.append_nil, List.set_cons_zero, List.set_cons_succ, if_true, if_false, Bool.not_true, Bool.not_false, Bool.true_eq_false, Bool.false_eq_true, Nat.reduceAdd, Nat.reduceSub, gName']
    exact ⟨by trivial, by simp, cs ++ [if c < 0 then -c else c], by simp⟩
  · obtain ⟨rfl, _, cs, rfl⟩ := z
    simp only [ws_seq, ws_if, ws_set, ws_sub, ws_ret, ws_retN, ws_expr, ws_sNx, ws_for, wp_op, wp_var0, wp_varS, wp_c, wp_mB, wp_toB, wp_tr, wp_trB_bl, wp_trB_non, wp_trB_int, wp_not, wp_and, wp_or, wp_if, wp_mBl, wp_nil, wp_cons, wp_tup, wp_lst, wp_lstS, wp_newL_t, wp_newL_f, wp_chain, wp_call, wp_fn, wp_sl, wp_noPart, wp_part, wp_comp, wp_yes, wp_iL, wp_iA, wp_srcL, wp_srcS, wp_srcAL, wp_srcAT, wp_iR1, wp_iR2, wp_rng1, wp_rng2, wp_iRv, wp_srcRL, wp_srcRT, wp_iEA, wp_srcEL, wp_srcET, wp_add, wp_sub, wp_mul, wp_mod, wp_div, wp_divW, wp_pow18, wp_pow17, wp_pow16, wp_pow30, wp_eqI, wp_neI, wp_cmpI, wp_isN, wp_isNotN, wp_lenL, wp_lenT, wp_abs, wp_int, wp_min2, wp_max2, wp_listL, wp_listT, wp_tupleL, wp_tupleT, wp_ixT0, wp_ixT1, wp_ixL0, wp_neg, wp_ok, wp_srcEL, wp_isB, wp_isNotB, wp_eqB, wp_neB, wp_all, wp_any, wp_slT, wp_slL, wp_rev, wp_revT, wp_revL, wp_disp, wp_pair, wp_pair0, wp_dict0, wipeW, List.foldl_cons, List.foldl_nil, wp_run, List.map, List.length, List.replicate, List.cons_append, List.nil_append, List.append_nil, List.set_cons_zero, List.set_cons_succ, if_true, if_false, Bool.not_true, Bool.not_false, Bool.true_eq_false, Bool.false_eq_true, Nat.reduceAdd, Nat.reduceSub, gName', wp_newL_f]
    exact ⟨by trivial, fun i n e => get_old e, cs, 0, 0, 1 + (cs.length : Int), 0, by simp [BagN]⟩
/-- one of a list -/
theorem any_ok {h : Nat} {st : Sto} {xs : List W} (g : Bg h st) (h0 : xs ≠ []) (h1 : xs.length < 1073741824) : wp (r_law_any [.ref h, .lst xs] st) (fun w s => ∃ n : Nd, w ∈ xs ∧ s = st.set h n ∧ Bg h s) NoE := by
  have hl := List.length_pos_iff.mpr h0
  simp only [r_law_any, m_law_any]
  simp only [ws_seq, ws_if, ws_set, ws_sub, ws_ret, ws_retN, ws_expr, ws_sNx, ws_for, wp_op, wp_var0, wp_varS, wp_c, wp_mB, wp_toB, wp_tr, wp_trB_bl, wp_trB_non, wp_trB_int, wp_not, wp_and, wp_or, wp_if, wp_mBl, wp_nil, wp_cons, wp_tup, wp_lst, wp_lstS, wp_newL_t, wp_newL_f, wp_chain, wp_call, wp_fn, wp_sl, wp_noPart, wp_part, wp_comp, wp_yes, wp_iL, wp_iA, wp_srcL, wp_srcS, wp_srcAL, wp_srcAT, wp_iR1, wp_iR2, wp_rng1, wp_rng2, wp_iRv, wp_srcRL, wp_srcRT, wp_iEA, wp_srcEL, wp_srcET, wp_add, wp_sub, wp_mul, wp_mod, wp_div, wp_divW, wp_pow18, wp_pow17, wp_pow16, wp_pow30, wp_eqI, wp_neI, wp_cmpI, wp_isN, wp_isNotN, wp_lenL, wp_lenT, wp_abs, wp_int, wp_min2, wp_max2, wp_listL, wp_listT, wp_tupleL, wp_tupleT, wp_ixT0, wp_ixT1, wp_ixL0, wp_neg, wp_ok, wp_srcEL, wp_isB, wp_isNotB, wp_eqB, wp_neB, wp_all, wp_any, wp_slT, wp_slL, wp_rev, wp_revT, wp_revL, wp_disp, wp_pair, wp_pair0, wp_dict0, wipeW, List.foldl_cons, List.foldl_nil, wp_run, List.map, List.length, List.replicate, List.cons_append, List.nil_append, List.append_nil, List.set_cons_zero, List.set_cons_succ, if_true, if_false, Bool.not_true, Bool.not_false, Bool.true_eq_false, Bool.false_eq_true, Nat.reduceAdd, Nat.reduceSub, gName']
  refine wp_no (draw1 g (by omega) (by omega)) ?_
  rintro w s ⟨x, n, rfl, a, b, rfl, g'⟩
  have hx : x.toNat < xs.length := by omega
  rw [wp_ixLi a (List.getElem?_eq_getElem hx)]
  exact ⟨n, List.getElem_mem hx, rfl, g'⟩
/-! contents -/
def Item (w : W) : Prop := (∃ i : Int, w = .int i ∧ -1000000000000000000000000000000 ≤ i ∧ i ≤ 1000000000000000000000000000000) ∨ w = .str "" ∨ w = .str "a" ∨ w = .str "abcdefghijkl" ∨ w = .str "new"
def Cont (w : W) : Prop := ∃ xs, w = .tup xs ∧ xs.length ≤ 40 ∧ ∀ x ∈ xs, Item x
theorem cont_ok {h : Nat} {st : Sto} (g : Bg h st) : wp (r_law_content [.ref h] st) (fun w s => ∃ n : Nd, Cont w ∧ s = st.set h n ∧ Bg h s) NoE := by
  simp only [r_law_content, m_law_content]
  simp only [ws_seq, ws_if, ws_set, ws_sub, ws_ret, ws_retN, ws_expr, ws_sNx, ws_for, wp_op, wp_var0, wp_varS, wp_c, wp_mB, wp_toB, wp_tr, wp_trB_bl, wp_trB_non, wp_trB_int, wp_not, wp_and, wp_or, wp_if, wp_mBl, wp_nil, wp_cons, wp_tup, wp_lst, wp_lstS, wp_newL_t, wp_newL_f, wp_chain, wp_call, wp_fn, wp_sl, wp_noPart, wp_part, wp_comp, wp_yes, wp_iL, wp_iA, wp_srcL, wp_srcS, wp_srcAL, wp_srcAT, wp_iR1, wp_iR2, wp_rng1, wp_rng2, wp_iRv, wp_srcRL, wp_srcRT, wp_iEA, wp_srcEL, wp_srcET, wp_add, wp_sub, wp_mul, wp_mod, wp_div, wp_divW, wp_pow18, wp_pow17, wp_pow16, wp_pow30, wp_eqI, wp_neI, wp_cmpI, wp_isN, wp_isNotN, wp_lenL, wp_lenT, wp_abs, wp_int, wp_min2, wp_max2, wp_listL, wp_listT, wp_tupleL, wp_tupleT, wp_ixT0, wp_ixT1, wp_ixL0, wp_neg, wp_ok, wp_srcEL, wp_isB, wp_isNotB, wp_eqB, wp_neB, wp_all, wp_any, wp_slT, wp_slL, wp_rev, wp_revT, wp_revL, wp_disp, wp_pair, wp_pair0, wp_dict0, wipeW, List.foldl_cons, List.foldl_nil, wp_run, List.map, List.length, List.replicate, List.cons_append, List.nil_append, List.append_nil, List.set_cons_zero, List.set_cons_succ, if_true, if_false, Bool.not_true, Bool.not_false, Bool.true_eq_false, Bool.false_eq_true, Nat.reduceAdd, Nat.reduceSub, gName']
  refine wp_no (draw1 g (m := 1000) (by decide) (by decide)) ?_
  rintro w s ⟨x, n, rfl, a, b, rfl, g'⟩
  have hs : ∀ w ∈ [W.int 0, .int 1, .int (-7), .int 1000000000000000000000000000000, .int (-1000000000000000000000000000000), .str "", .str "a", .str "abcdefghijkl", .int x], Item w := by
    intro w hw
    simp only [List.mem_cons, List.not_mem_nil, or_false] at hw
    rcases hw with rfl | rfl | rfl | rfl | rfl | rfl | rfl | rfl | rfl
    · exact .inl ⟨_, rfl, by omega, by omega⟩
    · exact .inl ⟨_, rfl, by omega, by omega⟩
    · exact .inl ⟨_, rfl, by omega, by omega⟩
    · exact .inl ⟨_, rfl, by omega, by omega⟩
    · exact .inl ⟨_, rfl, by omega, by omega⟩
    · exact .inr (.inl rfl)
    · exact .inr (.inr (.inl rfl))
    · exact .inr (.inr (.inr (.inl rfl)))
    · exact .inl ⟨_, rfl, by omega, by omega⟩
  generalize hsm : [W.int 0, .int 1, .int (-7), .int 1000000000000000000000000000000, .int (-1000000000000000000000000000000), .str "", .str "a", .str "abcdefghijkl", .int x] = some1 at hs ⊢
  have hne : some1 ≠ [] := by rw [← hsm]; simp
  have hle : some1.length < 1073741824 := by rw [← hsm]; simp
  refine wp_no (any_ok g' (xs := [.int 0, .int 1, .int 2, .int 3, .int 5, .int 40]) (by simp) (by simp)) ?_
  rintro w s ⟨n2, hw, rfl, g2⟩
  obtain ⟨j, rfl, hj⟩ : ∃ j : Nat, w = .int (j : Int) ∧ j ≤ 40 := by
    simp only [List.mem_cons, List.not_mem_nil, or_false] at hw
    rcases hw with rfl | rfl | rfl | rfl | rfl | rfl
    · exact ⟨0, rfl, by decide⟩
    · exact ⟨1, rfl, by decide⟩
    · exact ⟨2, rfl, by decide⟩
    · exact ⟨3, rfl, by decide⟩
    · exact ⟨5, rfl, by decide⟩
    · exact ⟨40, rfl, by decide⟩
  simp only [ws_seq, ws_if, ws_set, ws_sub, ws_ret, ws_retN, ws_expr, ws_sNx, ws_for, wp_op, wp_var0, wp_varS, wp_c, wp_mB, wp_toB, wp_tr, wp_trB_bl, wp_trB_non, wp_trB_int, wp_not, wp_and, wp_or, wp_if, wp_mBl, wp_nil, wp_cons, wp_tup, wp_lst, wp_lstS, wp_newL_t, wp_newL_f, wp_chain, wp_call, wp_fn, wp_sl, wp_noPart, wp_part, wp_comp, wp_yes, wp_iL, wp_iA, wp_srcL, wp_srcS, wp_srcAL, wp_srcAT, wp_iR1, wp_iR2, wp_rng1, wp_rng2, wp_iRv, wp_srcRL, wp_srcRT, wp_iEA, wp_srcEL, wp_srcET, wp_add, wp_sub, wp_mul, wp_mod, wp_div, wp_divW, wp_pow18, wp_pow17, wp_pow16, wp_pow30, wp_eqI, wp_neI, wp_cmpI, wp_isN, wp_isNotN, wp_lenL, wp_lenT, wp_abs, wp_int, wp_min2, wp_max2, wp_listL, wp_listT, wp_tupleL, wp_tupleT, wp_ixT0, wp_ixT1, wp_ixL0, wp_neg, wp_ok, wp_srcEL, wp_isB, wp_isNotB, wp_eqB, wp_neB, wp_all, wp_any, wp_slT, wp_slL, wp_rev, wp_revT, wp_revL, wp_disp, wp_pair, wp_pair0, wp_dict0, wipeW, List.foldl_cons, List.foldl_nil, wp_run, List.map, List.length, List.replicate, List.cons_append, List.nil_append, List.append_nil, List.set_cons_zero, List.set_cons_succ, if_true, if_false, Bool.not_true, Bool.not_false, Bool.true_eq_false, Bool.false_eq_true, Nat.reduceAdd, Nat.reduceSub, gName']
  refine ⟨by simp only [Mi.small62, decide_eq_true_eq]; omega, ?_⟩
  rw [Int.toNat_natCast]
  refine compS_fix (fun i acc s => acc.length = i ∧ (∀ w ∈ acc, Item w) ∧ ∃ n, s = st.set h n ∧ Bg h s) ⟨rfl, by simp, n2, by rw [List.set_set], g2⟩ (by rw [rng_len]; simp only [sizeLine]; omega) (fun i acc s z => by omega) (fun i w e acc s z => ?_) (fun acc s z => ?_)
  · obtain ⟨z1, z2, n3, rfl, z4⟩ := z
    refine ⟨_, rfl, ?_⟩
    simp only [ws_seq, ws_if, ws_set, ws_sub, ws_ret, ws_retN, ws_expr, ws_sNx, ws_for, wp_op, wp_var0, wp_varS, wp_c, wp_mB, wp_toB, wp_tr, wp_trB_bl, wp_trB_non, wp_trB_int, wp_not, wp_and, wp_or, wp_if, wp_mBl, wp_nil, wp_cons, wp_tup, wp_lst, wp_lstS, wp_newL_t, wp_newL_f, wp_chain, wp_call, wp_fn, wp_sl, wp_noPart, wp_part, wp_comp, wp_yes, wp_iL, wp_iA, wp_srcL, wp_srcS, wp_srcAL, wp_srcAT, wp_iR1, wp_iR2, wp_rng1, wp_rng2, wp_iRv, wp_srcRL, wp_srcRT, wp_iEA, wp_srcEL, wp_srcET, wp_add, wp_sub, wp_mul, wp_mod, wp_div, wp_divW, wp_pow18, wp_pow17, wp_pow16, wp_pow30, wp_eqI, wp_neI, wp_cmpI, wp_isN, wp_isNotN, wp_lenL, wp_lenT, wp_abs, wp_int, wp_min2, wp_max2, wp_listL, wp_listT, wp_tupleL, wp_tupleT, wp_ixT0, wp_ixT1, wp_ixL0, wp_neg, wp_ok, wp_srcEL, wp_isB, wp_isNotB, wp_eqB, wp_neB, wp_all, wp_any, wp_slT, wp_slL, wp_rev, wp_revT, wp_revL, wp_disp, wp_pair, wp_pair0, wp_dict0, wipeW, List.foldl_cons, List.foldl_nil, wp_run, List.map, List.length, List.replicate, List.cons_append, List.nil_append, List.append_nil, List.set_cons_zero, List.set_cons_succ, if_true, if_false, Bool.not_true, Bool.not_false, Bool.true_eq_false, Bool.false_eq_true, Nat.reduceAdd, Nat.reduceSub, gName']
    refine wp_no (any_ok z4 hne hle) ?_
    rintro v s ⟨n4, hv, rfl, g4⟩
    refine ⟨by simp [z1], fun u hu => ?_, n4, by rw [List.set_set], g4⟩
    simp only [List.mem_append, List.mem_singleton] at hu
    rcases hu with hu | rfl
    · exact z2 u hu
    · exact hs _ hv
  · obtain ⟨z1, z2, n3, rfl, z4⟩ := z
    exact ⟨n3, ⟨acc, rfl, by rw [z1, rng_len]; exact hj, z2⟩, by trivial, z4⟩
theorem word1 (st : Sto) : r_is_word [.str ""] st = .ok (.bl true) st := rfl
theorem word2 (st : Sto) : r_is_word [.str "a"] st = .ok (.bl true) st := rfl
theorem word3 (st : Sto) : r_is_word [.str "abcdefghijkl"] st = .ok (.bl true) st := rfl
theorem word4 (st : Sto) : r_is_word [.str "new"] st = .ok (.bl true) st := rfl
theorem nword (i : Int) (st : Sto) : r_is_word [.int i] st = .ok (.bl false) st := rfl
theorem int_i (i : Int) (st : Sto) : r_is_integer [.int i] st = .ok (.bl true) st := rfl
theorem within_ok {a b i : Int} {st : Sto} {P : W → Sto → Prop} {E : Xc → Sto → Prop} : wp (r_is_within [.int a, .int b, .int i] st) P E ↔ P (.bl (decide (a ≤ i) && decide (i ≤ b))) st := by
  simp only [r_is_within, m_is_within]
  simp only [ws_seq, ws_if, ws_set, ws_sub, ws_ret, ws_retN, ws_expr, ws_sNx, ws_for, wp_op, wp_var0, wp_varS, wp_c, wp_mB, wp_toB, wp_tr, wp_trB_bl, wp_trB_non, wp_trB_int, wp_not, wp_and, wp_or, wp_if, wp_mBl, wp_nil, wp_cons, wp_tup, wp_lst, wp_lstS, wp_newL_t, wp_newL_f, wp_chain, wp_call, wp_fn, wp_sl, wp_noPart, wp_part, wp_comp, wp_yes, wp_iL, wp_iA, wp_srcL, wp_srcS, wp_srcAL, wp_srcAT, wp_iR1, wp_iR2, wp_rng1, wp_rng2, wp_iRv, wp_srcRL, wp_srcRT, wp_iEA, wp_srcEL, wp_srcET, wp_add, wp_sub, wp_mul, wp_mod, wp_div, wp_divW, wp_pow18, wp_pow17, wp_pow16, wp_pow30, wp_eqI, wp_neI, wp_cmpI, wp_isN, wp_isNotN, wp_lenL, wp_lenT, wp_abs, wp_int, wp_min2, wp_max2, wp_listL, wp_listT, wp_tupleL, wp_tupleT, wp_ixT0, wp_ixT1, wp_ixL0, wp_neg, wp_ok, wp_srcEL, wp_isB, wp_isNotB, wp_eqB, wp_neB, wp_all, wp_any, wp_slT, wp_slL, wp_rev, wp_revT, wp_revL, wp_disp, wp_pair, wp_pair0, wp_dict0, wipeW, List.foldl_cons, List.foldl_nil, wp_run, List.map, List.length, List.replicate, List.cons_append, List.nil_append, List.append_nil, List.set_cons_zero, List.set_cons_succ, if_true, if_false, Bool.not_true, Bool.not_false, Bool.true_eq_false, Bool.false_eq_true, Nat.reduceAdd, Nat.reduceSub, gName', int_i]
  by_cases h : a ≤ i
  · simp [h]
  · simp [h]
theorem item_ok {w : W} (h : Item w) (st : Sto) : wp (r_is_item [w] st) (fun v s => v = .bl true ∧ s = st) NoE := by
  simp only [r_is_item, m_is_item]
  rcases h with ⟨i, rfl, h1, h2⟩ | rfl | rfl | rfl | rfl
  · simp only [ws_seq, ws_if, ws_set, ws_sub, ws_ret, ws_retN, ws_expr, ws_sNx, ws_for, wp_op, wp_var0, wp_varS, wp_c, wp_mB, wp_toB, wp_tr, wp_trB_bl, wp_trB_non, wp_trB_int, wp_not, wp_and, wp_or, wp_if, wp_mBl, wp_nil, wp_cons, wp_tup, wp_lst, wp_lstS, wp_newL_t, wp_newL_f, wp_chain, wp_call, wp_fn, wp_sl, wp_noPart, wp_part, wp_comp, wp_yes, wp_iL, wp_iA, wp_srcL, wp_srcS, wp_srcAL, wp_srcAT, wp_iR1, wp_iR2, wp_rng1, wp_rng2, wp_iRv, wp_srcRL, wp_srcRT, wp_iEA, wp_srcEL, wp_srcET, wp_add, wp_sub, wp_mul, wp_mod, wp_div, wp_divW, wp_pow18, wp_pow17, wp_pow16, wp_pow30, wp_eqI, wp_neI, wp_cmpI, wp_isN, wp_isNotN, wp_lenL, wp_lenT, wp_abs, wp_int, wp_min2, wp_max2, wp_listL, wp_listT, wp_tupleL, wp_tupleT, wp_ixT0, wp_ixT1, wp_ixL0, wp_neg, wp_ok, wp_srcEL, wp_isB, wp_isNotB, wp_eqB, wp_neB, wp_all, wp_any, wp_slT, wp_slL, wp_rev, wp_revT, wp_revL, wp_disp, wp_pair, wp_pair0, wp_dict0, wipeW, List.foldl_cons, List.foldl_nil, wp_run, List.map, List.length, List.replicate, List.cons_append, List.nil_append, List.append_nil, List.set_cons_zero, List.set_cons_succ, if_true, if_false, Bool.not_true, Bool.not_false, Bool.true_eq_false, Bool.false_eq_true, Nat.reduceAdd, Nat.reduceSub, gName', nword, within_ok, decide_eq_true h1, decide_eq_true h2, Bool.and_self]
    exact ⟨by trivial, by trivial⟩
  · simp only [ws_seq, ws_if, ws_set, ws_sub, ws_ret, ws_retN, ws_expr, ws_sNx, ws_for, wp_op, wp_var0, wp_varS, wp_c, wp_mB, wp_toB, wp_tr, wp_trB_bl, wp_trB_non, wp_trB_int, wp_not, wp_and, wp_or, wp_if, wp_mBl, wp_nil, wp_cons, wp_tup, wp_lst, wp_lstS, wp_newL_t, wp_newL_f, wp_chain, wp_call, wp_fn, wp_sl, wp_noPart, wp_part, wp_comp, wp_yes, wp_iL, wp_iA, wp_srcL, wp_srcS, wp_srcAL, wp_srcAT, wp_iR1, wp_iR2, wp_rng1, wp_rng2, wp_iRv, wp_srcRL, wp_srcRT, wp_iEA, wp_srcEL, wp_srcET, wp_add, wp_sub, wp_mul, wp_mod, wp_div, wp_divW, wp_pow18, wp_pow17, wp_pow16, wp_pow30, wp_eqI, wp_neI, wp_cmpI, wp_isN, wp_isNotN, wp_lenL, wp_lenT, wp_abs, wp_int, wp_min2, wp_max2, wp_listL, wp_listT, wp_tupleL, wp_tupleT, wp_ixT0, wp_ixT1, wp_ixL0, wp_neg, wp_ok, wp_srcEL, wp_isB, wp_isNotB, wp_eqB, wp_neB, wp_all, wp_any, wp_slT, wp_slL, wp_rev, wp_revT, wp_revL, wp_disp, wp_pair, wp_pair0, wp_dict0, wipeW, List.foldl_cons, List.foldl_nil, wp_run, List.map, List.length, List.replicate, List.cons_append, List.nil_append, List.append_nil, List.set_cons_zero, List.set_cons_succ, if_true, if_false, Bool.not_true, Bool.not_false, Bool.true_eq_false, Bool.false_eq_true, Nat.reduceAdd, Nat.reduceSub, gName', word1]
    exact ⟨by trivial, by trivial⟩
  · simp only [ws_seq, ws_if, ws_set, ws_sub, ws_ret, ws_retN, ws_expr, ws_sNx, ws_for, wp_op, wp_var0, wp_varS, wp_c, wp_mB, wp_toB, wp_tr, wp_trB_bl, wp_trB_non, wp_trB_int, wp_not, wp_and, wp_or, wp_if, wp_mBl, wp_nil, wp_cons, wp_tup, wp_lst, wp_lstS, wp_newL_t, wp_newL_f, wp_chain, wp_call, wp_fn, wp_sl, wp_noPart, wp_part, wp_comp, wp_yes, wp_iL, wp_iA, wp_srcL, wp_srcS, wp_srcAL, wp_srcAT, wp_iR1, wp_iR2, wp_rng1, wp_rng2, wp_iRv, wp_srcRL, wp_srcRT, wp_iEA, wp_srcEL, wp_srcET, wp_add, wp_sub, wp_mul, wp_mod, wp_div, wp_divW, wp_pow18, wp_pow17, wp_pow16, wp_pow30, wp_eqI, wp_neI, wp_cmpI, wp_isN, wp_isNotN, wp_lenL, wp_lenT, wp_abs, wp_int, wp_min2, wp_max2, wp_listL, wp_listT, wp_tupleL, wp_tupleT, wp_ixT0, wp_ixT1, wp_ixL0, wp_neg, wp_ok, wp_srcEL, wp_isB, wp_isNotB, wp_eqB, wp_neB, wp_all, wp_any, wp_slT, wp_slL, wp_rev, wp_revT, wp_revL, wp_disp, wp_pair, wp_pair0, wp_dict0, wipeW, List.foldl_cons, List.foldl_nil, wp_run, List.map, List.length, List.replicate, List.cons_append, List.nil_append, List.append_nil, List.set_cons_zero, List.set_cons_succ, if_true, if_false, Bool.not_true, Bool.not_false, Bool.true_eq_false, Bool.false_eq_true, Nat.reduceAdd, Nat.reduceSub, gName', word2]
    exact ⟨by trivial, by trivial⟩
  · simp only [ws_seq, ws_if, ws_set, ws_sub, ws_ret, ws_retN, ws_expr, ws_sNx, ws_for, wp_op, wp_var0, wp_varS, wp_c, wp_mB, wp_toB, wp_tr, wp_trB_bl, wp_trB_non, wp_trB_int, wp_not, wp_and, wp_or, wp_if, wp_mBl, wp_nil, wp_cons, wp_tup, wp_lst, wp_lstS, wp_newL_t, wp_newL_f, wp_chain, wp_call, wp_fn, wp_sl, wp_noPart, wp_part, wp_comp, wp_yes, wp_iL, wp_iA, wp_srcL, wp_srcS, wp_srcAL, wp_srcAT, wp_iR1, wp_iR2, wp_rng1, wp_rng2, wp_iRv, wp_srcRL, wp_srcRT, wp_iEA, wp_srcEL, wp_srcET, wp_add, wp_sub, wp_mul, wp_mod, wp_div, wp_divW, wp_pow18, wp_pow17, wp_pow16, wp_pow30, wp_eqI, wp_neI, wp_cmpI, wp_isN, wp_isNotN, wp_lenL, wp_lenT, wp_abs, wp_int, wp_min2, wp_max2, wp_listL, wp_listT, wp_tupleL, wp_tupleT, wp_ixT0, wp_ixT1, wp_ixL0, wp_neg, wp_ok, wp_srcEL, wp_isB, wp_isNotB, wp_eqB, wp_neB, wp_all, wp_any, wp_slT, wp_slL, wp_rev, wp_revT, wp_revL, wp_disp, wp_pair, wp_pair0, wp_dict0, wipeW, List.foldl_cons, List.foldl_nil, wp_run, List.map, List.length, List.replicate, List.cons_append, List.nil_append, List.append_nil, List.set_cons_zero, List.set_cons_succ, if_true, if_false, Bool.not_true, Bool.not_false, Bool.true_eq_false, Bool.false_eq_true, Nat.reduceAdd, Nat.reduceSub, gName', word3]
    exact ⟨by trivial, by trivial⟩
  · simp only [ws_seq, ws_if, ws_set, ws_sub, ws_ret, ws_retN, ws_expr, ws_sNx, ws_for, wp_op, wp_var0, wp_varS, wp_c, wp_mB, wp_toB, wp_tr, wp_trB_bl, wp_trB_non, wp_trB_int, wp_not, wp_and, wp_or, wp_if, wp_mBl, wp_nil, wp_cons, wp_tup, wp_lst, wp_lstS, wp_newL_t, wp_newL_f, wp_chain, wp_call, wp_fn, wp_sl, wp_noPart, wp_part, wp_comp, wp_yes, wp_iL, wp_iA, wp_srcL, wp_srcS, wp_srcAL, wp_srcAT, wp_iR1, wp_iR2, wp_rng1, wp_rng2, wp_iRv, wp_srcRL, wp_srcRT, wp_iEA, wp_srcEL, wp_srcET, wp_add, wp_sub, wp_mul, wp_mod, wp_div, wp_divW, wp_pow18, wp_pow17, wp_pow16, wp_pow30, wp_eqI, wp_neI, wp_cmpI, wp_isN, wp_isNotN, wp_lenL, wp_lenT, wp_abs, wp_int, wp_min2, wp_max2, wp_listL, wp_listT, wp_tupleL, wp_tupleT, wp_ixT0, wp_ixT1, wp_ixL0, wp_neg, wp_ok, wp_srcEL, wp_isB, wp_isNotB, wp_eqB, wp_neB, wp_all, wp_any, wp_slT, wp_slL, wp_rev, wp_revT, wp_revL, wp_disp, wp_pair, wp_pair0, wp_dict0, wipeW, List.foldl_cons, List.foldl_nil, wp_run, List.map, List.length, List.replicate, List.cons_append, List.nil_append, List.append_nil, List.set_cons_zero, List.set_cons_succ, if_true, if_false, Bool.not_true, Bool.not_false, Bool.true_eq_false, Bool.false_eq_true, Nat.reduceAdd, Nat.reduceSub, gName', word4]
    exact ⟨by trivial, by trivial⟩
theorem isi_tup (xs : List W) (st : Sto) : fIsi x_own [.tup xs, .ty "tuple"] st = .ok (.bl true) st := rfl
theorem content_ok {w : W} (h : Cont w) (st : Sto) : wp (r_is_content [w] st) (fun v s => v = .bl true ∧ s = st) NoE := by
  obtain ⟨xs, rfl, h1, h2⟩ := h
  have c1 : (0 : Int) ≤ (xs.length : Int) := by omega
  have c2 : (xs.length : Int) ≤ 40 := by omega
  simp only [r_is_content, m_is_content, r_is_row, m_is_row]
  simp only [ws_seq, ws_if, ws_set, ws_sub, ws_ret, ws_retN, ws_expr, ws_sNx, ws_for, wp_op, wp_var0, wp_varS, wp_c, wp_mB, wp_toB, wp_tr, wp_trB_bl, wp_trB_non, wp_trB_int, wp_not, wp_and, wp_or, wp_if, wp_mBl, wp_nil, wp_cons, wp_tup, wp_lst, wp_lstS, wp_newL_t, wp_newL_f, wp_chain, wp_call, wp_fn, wp_sl, wp_noPart, wp_part, wp_comp, wp_yes, wp_iL, wp_iA, wp_srcL, wp_srcS, wp_srcAL, wp_srcAT, wp_iR1, wp_iR2, wp_rng1, wp_rng2, wp_iRv, wp_srcRL, wp_srcRT, wp_iEA, wp_srcEL, wp_srcET, wp_add, wp_sub, wp_mul, wp_mod, wp_div, wp_divW, wp_pow18, wp_pow17, wp_pow16, wp_pow30, wp_eqI, wp_neI, wp_cmpI, wp_isN, wp_isNotN, wp_lenL, wp_lenT, wp_abs, wp_int, wp_min2, wp_max2, wp_listL, wp_listT, wp_tupleL, wp_tupleT, wp_ixT0, wp_ixT1, wp_ixL0, wp_neg, wp_ok, wp_srcEL, wp_isB, wp_isNotB, wp_eqB, wp_neB, wp_all, wp_any, wp_slT, wp_slL, wp_rev, wp_revT, wp_revL, wp_disp, wp_pair, wp_pair0, wp_dict0, wipeW, List.foldl_cons, List.foldl_nil, wp_run, List.map, List.length, List.replicate, List.cons_append, List.nil_append, List.append_nil, List.set_cons_zero, List.set_cons_succ, if_true, if_false, Bool.not_true, Bool.not_false, Bool.true_eq_false, Bool.false_eq_true, Nat.reduceAdd, Nat.reduceSub, gName', isi_tup, decide_eq_true c1, decide_eq_true c2, wp_iT]
  have e0 : xs = xs.map id := by simp
  have key := compS_map (ys := xs) (enc := id) (fun _ => true) (fun _ => W.bl true) (t := .one 3) (cond := mYes) (elt := mCall r_is_item (mCons (mVar 3) (mNil))) (env := [some (.int 0), some (.int 40), some (.tup xs), none]) (st := st)
    (Q := fun ys s => wp (fAll [.lst ys] s) (fun v s => v = .bl true ∧ s = st) NoE) (E := NoE) (by simp only [sizeLine]; omega) (fun y hy => ⟨_, rfl, by simp only [ws_seq, ws_if, ws_set, ws_sub, ws_ret, ws_retN, ws_expr, ws_sNx, ws_for, wp_op, wp_var0, wp_varS, wp_c, wp_mB, wp_toB, wp_tr, wp_trB_bl, wp_trB_non, wp_trB_int, wp_not, wp_and, wp_or, wp_if, wp_mBl, wp_nil, wp_cons, wp_tup, wp_lst, wp_lstS, wp_newL_t, wp_newL_f, wp_chain, wp_call, wp_fn, wp_sl, wp_noPart, wp_part, wp_comp, wp_yes, wp_iL, wp_iA, wp_srcL, wp_srcS, wp_srcAL, wp_srcAT, wp_iR1, wp_iR2, wp_rng1, wp_rng2, wp_iRv, wp_srcRL, wp_srcRT, wp_iEA, wp_srcEL, wp_srcET, wp_add, wp_sub, wp_mul, wp_mod, wp_div, wp_divW, wp_pow18, wp_pow17, wp_pow16, wp_pow30, wp_eqI, wp_neI, wp_cmpI, wp_isN, wp_isNotN, wp_lenL, wp_lenT, wp_abs, wp_int, wp_min2, wp_max2, wp_listL, wp_listT, wp_tupleL, wp_tupleT, wp_ixT0, wp_ixT1, wp_ixL0, wp_neg, wp_ok, wp_srcEL, wp_isB, wp_isNotB, wp_eqB, wp_neB, wp_all, wp_any, wp_slT, wp_slL, wp_rev, wp_revT, wp_revL, wp_disp, wp_pair, wp_pair0, wp_dict0, wipeW, List.foldl_cons, List.foldl_nil, wp_run, List.map, List.length, List.replicate, List.cons_append, List.nil_append, List.append_nil, List.set_cons_zero, List.set_cons_succ, if_true, if_false, Bool.not_true, Bool.not_false, Bool.true_eq_false, Bool.false_eq_true, Nat.reduceAdd, Nat.reduceSub, gName']; exact ⟨by trivial, by trivial⟩, fun _ => by
      simp only [ws_seq, ws_if, ws_set, ws_sub, ws_ret, ws_retN, ws_expr, ws_sNx, ws_for, wp_op, wp_var0, wp_varS, wp_c, wp_mB, wp_toB, wp_tr, wp_trB_bl, wp_trB_non, wp_trB_int, wp_not, wp_and, wp_or, wp_if, wp_mBl, wp_nil, wp_cons, wp_tup, wp_lst, wp_lstS, wp_newL_t, wp_newL_f, wp_chain, wp_call, wp_fn, wp_sl, wp_noPart, wp_part, wp_comp, wp_yes, wp_iL, wp_iA, wp_srcL, wp_srcS, wp_srcAL, wp_srcAT, wp_iR1, wp_iR2, wp_rng1, wp_rng2, wp_iRv, wp_srcRL, wp_srcRT, wp_iEA, wp_srcEL, wp_srcET, wp_add, wp_sub, wp_mul, wp_mod, wp_div, wp_divW, wp_pow18, wp_pow17, wp_pow16, wp_pow30, wp_eqI, wp_neI, wp_cmpI, wp_isN, wp_isNotN, wp_lenL, wp_lenT, wp_abs, wp_int, wp_min2, wp_max2, wp_listL, wp_listT, wp_tupleL, wp_tupleT, wp_ixT0, wp_ixT1, wp_ixL0, wp_neg, wp_ok, wp_srcEL, wp_isB, wp_isNotB, wp_eqB, wp_neB, wp_all, wp_any, wp_slT, wp_slL, wp_rev, wp_revT, wp_revL, wp_disp, wp_pair, wp_pair0, wp_dict0, wipeW, List.foldl_cons, List.foldl_nil, wp_run, List.map, List.length, List.replicate, List.cons_append, List.nil_append, List.append_nil, List.set_cons_zero, List.set_cons_succ, if_true, if_false, Bool.not_true, Bool.not_false, Bool.true_eq_false, Bool.false_eq_true, Nat.reduceAdd, Nat.reduceSub, gName']
      exact item_ok (h2 y hy) st⟩) ?_
  · simpa using key
  · have e1 : (xs.filter fun _ => true).map (fun _ => W.bl true) = (xs.map fun _ => true).map W.bl := by
      rw [List.filter_eq_self.mpr (by simp), List.map_map]; rfl
    rw [e1, wp_all]
    exact ⟨by simp, rfl⟩
/-! equality of contents -/
theorem itemD {w : W} (h : Item w) (st : Sto) : ∃ d, toD st w = some d ∧ d.canLay0 = true ∧ d.depth = 0 := by
  rcases h with ⟨i, rfl, _, _⟩ | rfl | rfl | rfl | rfl
  · exact ⟨.int i, rfl, rfl, rfl⟩
  · exact ⟨.str "", rfl, by decide +kernel, rfl⟩
  · exact ⟨.str "a", rfl, by decide +kernel, rfl⟩
  · exact ⟨.str "abcdefghijkl", rfl, by decide +kernel, rfl⟩
  · exact ⟨.str "new", rfl, by decide +kernel, rfl⟩
theorem dataD {k : Nat} {st : Sto} : ∀ {xs : List W}, (∀ x ∈ xs, ∃ d, toD st x = some d ∧ d.canLay0 = true ∧ d.depth ≤ k) → ∃ ds, toDs st xs = some ds ∧ PyData.canLayAll0 ds = true ∧ PyData.depthAll ds ≤ k
  | [], _ => ⟨[], by simp [toDs], rfl, by simp [PyData.depthAll]⟩
  | x :: xs, h => by
    obtain ⟨d, h1, h2, h3⟩ := h x (by simp)
    obtain ⟨ds, k1, k2, k3⟩ := dataD (xs := xs) fun y hy => h y (by simp [hy])
    exact ⟨d :: ds, by simp [toDs, h1, k1], by simp [PyData.canLayAll0, h2, k2], by simp only [PyData.depthAll]; omega⟩
theorem contD {w : W} (h : Cont w) (st : Sto) : ∃ d, toD st w = some d ∧ d.canLay0 = true ∧ d.depth ≤ 1 := by
  obtain ⟨xs, rfl, _, h2⟩ := h
  obtain ⟨ds, k1, k2, k3⟩ := dataD (k := 0) (st := st) (xs := xs) fun x hx => by
    obtain ⟨d, a, b, c⟩ := itemD (h2 x hx) st
    exact ⟨d, a, b, by omega⟩
  exact ⟨.tuple ds, by simp [toD, k1], by simp only [PyData.canLay0]; exact k2, by simp only [PyData.depth]; omega⟩
theorem eq_data {w : W} {st : Sto} {d : PyData} (hs : scalV w = none) (h : toD st w = some d) (h2 : d.canLay0 = true) (h3 : d.depth ≤ 64) : eqW st w w = some true := by
  have sh : SeqAt.shaped d = true := by simp [SeqAt.shaped, h2, h3]
  simp only [eqW, eqWD, hs, h, sh, Bool.and_self, if_true, SeqAt.eqv_refl d h2]
theorem ne_same {w : W} (h : Cont w) {st : Sto} {P : W → Sto → Prop} {E : Xc → Sto → Prop} : wp (wNe w w st) P E ↔ P (.bl false) st := by
  obtain ⟨d, h1, h2, h3⟩ := contD h st
  have hs : scalV w = none := by obtain ⟨xs, rfl, _⟩ := h; rfl
  have : wNe w w st = .ok (.bl false) st := by simp only [wNe, eq_data hs h1 h2 (by omega), Bool.not_true]
  rw [this]; exact Iff.rfl
theorem cont_nil : Cont (.tup []) := ⟨[], rfl, by simp, by simp⟩
end Lw
namespace Lw
open PySem L2 Mi
/-! what a disk is, and what becomes of it -/
structure Acc where
  B : Nat
  U : List Int
  lie : List W
  wt : Int → List W
  pw : Option Int
  n : Int
def pwW : Option Int → W
  | none => .non
  | some i => .int i
def Acc.write (A : Acc) (b : Int) (x : W) : Acc := { A with wt := fun y => if y = b then A.wt y ++ [x] else A.wt y }
def Acc.step (A : Acc) (b : Int) : Acc := { A with pw := A.pw.map fun i => i - 1, lie := A.lie.set b.toNat ((A.wt b).headD .non), n := A.n + 1, wt := fun y => if y = b then (A.wt y).tail else A.wt y }
def Acc.power (A : Acc) (p : Option Int) : Acc := { A with pw := p }
def Acc.cut (A : Acc) : Acc := { A with pw := none, wt := fun _ => [] }
def Acc.drain (b : Int) : Nat → Acc → Acc × Bool
  | 0, A => (A, true)
  | m + 1, A => match A.wt b with
    | [] => (A, true)
    | _ :: _ => if A.pw = some 0 then (A, false) else Acc.drain b m (A.step b)
def Acc.emp (A : Acc) (b : Int) : Acc × Bool := Acc.drain b (A.wt b).length A
def Acc.force : List Int → Acc → Acc × Bool
  | [], A => (A, true)
  | b :: bs, A => match A.emp b with
    | (A', true) => Acc.force bs A'
    | (A', false) => (A', false)
theorem emp_nil {A : Acc} {b : Int} (h : A.wt b = []) : A.emp b = (A, true) := by
  unfold Acc.emp; rw [h]; rfl
theorem emp_stop {A : Acc} {b : Int} (h : A.wt b ≠ []) (p : A.pw = some 0) : A.emp b = (A, false) := by
  unfold Acc.emp
  cases e : A.wt b with
  | nil => exact absurd e h
  | cons x xs => simp only [List.length_cons, Acc.drain, e, p, if_true]
theorem emp_step {A : Acc} {b : Int} (h : A.wt b ≠ []) (p : A.pw ≠ some 0) : A.emp b = (A.step b).emp b := by
  unfold Acc.emp
  cases e : A.wt b with
  | nil => exact absurd e h
  | cons x xs =>
    have : (A.step b).wt b = xs := by simp [Acc.step, e]
    simp only [List.length_cons, Acc.drain, e, if_neg p, this]
/-! the object -/
def fsD (c k : Nat) (p : Option Int) (n : Int) : List (Str × W) := [("contents", .ref c), ("cached", .ref k), ("left", pwW p), ("arrived", .int n)]
def DiskN (c k : Nat) (p : Option Int) (n : Int) : Nd := .ins 0 (fsD c k p n)
def kvL (L : List (Int × Nat)) : List (Key × W) := L.map fun p => (Sum.inl p.1, W.ref p.2)
theorem lk_mem {L : List (Int × Nat)} (nd : (L.map (·.1)).Nodup) {b : Int} {r : Nat} (h : (b, r) ∈ L) : lkW (kvL L) (.inl b) = some (.ref r) := by
  induction L with
  | nil => cases h
  | cons p L ih =>
    rw [List.map_cons, List.nodup_cons] at nd
    simp only [kvL, lkW, List.map_cons] at ih ⊢
    rcases List.mem_cons.mp h with e | e
    · subst e
      simp
    · have : p.1 ≠ b := fun z => nd.1 (List.mem_map.mpr ⟨_, e, z.symm⟩)
      rw [List.find?_cons_of_neg (by simpa using this)]
      exact ih nd.2 e
theorem lk_not {L : List (Int × Nat)} {b : Int} (h : b ∉ L.map (·.1)) : lkW (kvL L) (.inl b) = none := by
  induction L with
  | nil => rfl
  | cons p L ih =>
    rw [List.map_cons, List.mem_cons, not_or] at h
    simp only [kvL, lkW, List.map_cons] at ih ⊢
    rw [List.find?_cons_of_neg (by simpa using fun e => h.1 e.symm)]
    exact ih h.2
theorem drop_kv {L : List (Int × Nat)} {b : Int} : dropKW (kvL L) (.inl b) = kvL (L.filter fun p => decide (p.1 ≠ b)) := by
  unfold dropKW kvL
  rw [List.filter_map]
  congr 1
  refine List.filter_congr fun p _ => ?_
  simp
structure DkS (st : Sto) (d c k : Nat) (L : List (Int × Nat)) (A : Acc) : Prop where
  hd : st[d]? = some (DiskN c k A.pw A.n)
  hc : st[c]? = some (.lst A.lie)
  hk : st[k]? = some (.dk (kvL L))
  row : ∀ b r, (b, r) ∈ L → st[r]? = some (.lst (A.wt b)) ∧ A.wt b ≠ [] ∧ b ∈ A.U
  non : ∀ b, b ∉ L.map (·.1) → A.wt b = []
  nk : (L.map (·.1)).Nodup
  nr : (d :: c :: k :: L.map (·.2)).Nodup
  len : A.lie.length = A.B
  uni : ∀ b ∈ A.U, 0 ≤ b ∧ b < A.B
  few : A.U.length < 64
def Dk (st : Sto) (d : Nat) (A : Acc) (own : List Nat) : Prop := ∃ c k L, DkS st d c k L A ∧ own = d :: c :: k :: L.map (·.2)
/-- own's places change, and become own' -/
structure Go (own : List Nat) (st : Sto) (own' : List Nat) (s : Sto) : Prop where
  le : st.length ≤ s.length
  fr : ∀ (j : Nat) (n : Nd), j ∉ own → st[j]? = some n → s[j]? = some n
  ow : ∀ j ∈ own', j ∈ own ∨ st.length ≤ j
theorem Go.refl {own : List Nat} {st : Sto} : Go own st own st := ⟨Nat.le_refl _, fun _ _ _ z => z, fun _ z => .inl z⟩
theorem Go.out {own own' : List Nat} {st s : Sto} (g : Go own st own' s) {j : Nat} (h : j ∉ own) (l : j < st.length) : j ∉ own' := fun z => by
  rcases g.ow j z with e | e
  · exact h e
  · omega
theorem Go.trans {o1 o2 o3 : List Nat} {a b c : Sto} (x : Go o1 a o2 b) (y : Go o2 b o3 c) : Go o1 a o3 c := ⟨Nat.le_trans x.le y.le, fun j n h e => y.fr j n (x.out h (lt_of_get e)) (x.fr j n h e), fun j h => by
  rcases y.ow j h with e | e
  · exact x.ow j e
  · exact .inr (Nat.le_trans x.le e)⟩
theorem Go.set {own own' : List Nat} {st : Sto} {j : Nat} {n : Nd} (h : j ∈ own) (s : ∀ i ∈ own', i ∈ own) : Go own st own' (st.set j n) := ⟨by simp, fun i m k e => by
  rw [get_setn (fun z : j = i => k (by rw [← z]; exact h))]; exact e, fun i h => .inl (s i h)⟩
theorem Go.app {own : List Nat} {st : Sto} {n : Nd} : Go own st (st.length :: own) (st ++ [n]) := ⟨by simp, fun i m _ e => get_old e, fun i h => by
  rcases List.mem_cons.mp h with e | e
  · exact .inr (by omega)
  · exact .inl e⟩
theorem Go.sub {own own' o2 : List Nat} {st s : Sto} (g : Go own st own' s) (h : ∀ j ∈ o2, j ∈ own') : Go own st o2 s := ⟨g.le, g.fr, fun j z => g.ow j (h j z)⟩
section
variable {st s : Sto} {d : Nat} {A : Acc} {own : List Nat}
theorem Dk.at (D : Dk st d A own) (h : ∀ j ∈ own, ∀ n, st[j]? = some n → s[j]? = some n) : Dk s d A own := by
  obtain ⟨c, k, L, D, rfl⟩ := D
  refine ⟨c, k, L, { D with hd := h d (by simp) _ D.hd, hc := h c (by simp) _ D.hc, hk := h k (by simp) _ D.hk, row := fun b r m => ?_ }, rfl⟩
  obtain ⟨h1, h2, h3⟩ := D.row b r m
  exact ⟨h r (by simp only [List.mem_cons]; exact .inr (.inr (.inr (List.mem_map.mpr ⟨_, m, rfl⟩)))) _ h1, h2, h3⟩
/-- another one's work -/
theorem Dk.go {o o' : List Nat} (D : Dk st d A own) (g : Go o st o' s) (h : ∀ j ∈ own, j ∉ o) : Dk s d A own := D.at fun j m n e => g.fr j n (h j m) e
theorem Dk.lt (D : Dk st d A own) : ∀ j ∈ own, j < st.length := by
  obtain ⟨c, k, L, D, rfl⟩ := D
  intro j h
  simp only [List.mem_cons, List.mem_map] at h
  rcases h with rfl | rfl | rfl | ⟨p, h, rfl⟩
  · exact lt_of_get D.hd
  · exact lt_of_get D.hc
  · exact lt_of_get D.hk
  · exact lt_of_get (D.row p.1 p.2 h).1
end
/-! its fields -/
section
variable {st : Sto} {d c k : Nat} {p : Option Int} {n : Int} {P : W → Sto → Prop} {E : Xc → Sto → Prop}
theorem f_c (e : st[d]? = some (DiskN c k p n)) : wp (fldR [0] "contents" (.ref d) st) P E ↔ P (.ref c) st := wp_fldR e rfl rfl
theorem f_k (e : st[d]? = some (DiskN c k p n)) : wp (fldR [0] "cached" (.ref d) st) P E ↔ P (.ref k) st := wp_fldR e rfl rfl
theorem f_l (e : st[d]? = some (DiskN c k p n)) : wp (fldR [0] "left" (.ref d) st) P E ↔ P (pwW p) st := wp_fldR e rfl rfl
theorem f_a (e : st[d]? = some (DiskN c k p n)) : wp (fldR [0] "arrived" (.ref d) st) P E ↔ P (.int n) st := wp_fldR e rfl rfl
theorem meth_d {m : Str} {r : RunM} (e : st[d]? = some (DiskN c k p n)) (h : (fsD c k p n).lookup m = none) : methF [(0, r)] m (.ref d) st = some r := methF_of e h rfl
theorem wp_eqP {q : Option Int} {i : Int} : wp (wEq (pwW q) (.int i) st) P E ↔ P (.bl (decide (q = some i))) st := by
  cases q with
  | none =>
    have : wEq (pwW none) (.int i) st = .ok (.bl false) st := by simp [pwW, wEq, eqW, scalV, scal]
    rw [this]; exact Iff.rfl
  | some j =>
    have := wp_eqI (i := j) (j := i) (st := st) (P := P) (E := E)
    simpa [pwW] using this
theorem wp_pop0 {r : Nat} {x : W} {xs : List W} (e : st[r]? = some (.lst (x :: xs))) : wp (fPopAt (.ref r) [.int 0] st) P E ↔ P x (st.set r (.lst xs)) := by
  have : fPopAt (.ref r) [.int 0] st = .ok x (st.set r (.lst xs)) := by
    simp [fPopAt, nodL, e, seqIndex?]
  rw [this]; exact Iff.rfl
theorem trB_l {r : Nat} {xs : List W} {PB : Bool → Sto → Prop} (e : st[r]? = some (.lst xs)) : wp (trB (.ref r) st) PB E ↔ PB (!xs.isEmpty) st := by
  have : trB (.ref r) st = .ok (!xs.isEmpty) st := by simp [trB, trW, seqL, e]
  rw [this]; exact Iff.rfl
end
end Lw
namespace Lw
open PySem L2 Mi
theorem keyi {i : Int} : Mi.keyOf (.int i) = some (.inl i) := rfl
theorem keys' {x : Str} : Mi.keyOf (.str x) = some (.inr x) := rfl
theorem isNil_false {α : Type} {l : List α} (h : l ≠ []) : l.isEmpty = false := by cases l <;> simp_all
theorem snd_inj {α β : Type} : ∀ {L : List (α × β)}, (L.map (·.2)).Nodup → ∀ {p q : α × β}, p ∈ L → q ∈ L → p.2 = q.2 → p = q
  | [], _, _, _, h, _, _ => nomatch h
  | a :: L, nd, p, q, hp, hq, e => by
    rw [List.map_cons, List.nodup_cons] at nd
    rcases List.mem_cons.mp hp with e1 | p1
    · rcases List.mem_cons.mp hq with e2 | q1
      · rw [e1, e2]
      · exact absurd (List.mem_map.mpr ⟨q, q1, e.symm.trans (by rw [e1])⟩) nd.1
    · rcases List.mem_cons.mp hq with e2 | q1
      · exact absurd (List.mem_map.mpr ⟨p, p1, e.trans (by rw [e2])⟩) nd.1
      · exact snd_inj nd.2 p1 q1 e
theorem isNon_pw {p : Option Int} : Mi.isNon (pwW p) = !p.isSome := by cases p <;> rfl
section
variable {st : Sto} {d : Nat} {A : Acc} {own : List Nat} {b : Int}
/-- the parts of a disk -/
theorem DkS.ne {c k : Nat} {L : List (Int × Nat)} (D : DkS st d c k L A) : d ≠ c ∧ d ≠ k ∧ c ≠ k ∧ ∀ b r, (b, r) ∈ L → r ≠ d ∧ r ≠ c ∧ r ≠ k := by
  have h := D.nr
  simp only [List.nodup_cons, List.mem_cons, List.mem_map, not_or] at h
  obtain ⟨⟨h1, h2, h3⟩, ⟨h4, h5⟩, h6, h7⟩ := h
  refine ⟨h1, h2, h4, fun b r m => ⟨fun z => h3 ⟨_, m, z⟩, fun z => h5 ⟨_, m, z⟩, fun z => h6 ⟨_, m, z⟩⟩⟩
theorem DkS.has {c k : Nat} {L : List (Int × Nat)} (D : DkS st d c k L A) (h : A.wt b ≠ []) : ∃ r, (b, r) ∈ L := by
  by_cases m : b ∈ L.map (·.1)
  · obtain ⟨⟨x, r⟩, m1, rfl⟩ := List.mem_map.mp m
    exact ⟨r, m1⟩
  · exact absurd (D.non b m) h
theorem stop_ok (D : Dk st d A own) (hp : A.pw = some 0) : wp (r_Disk_let_reach [.ref d, .int b] st) (fun _ _ => False) (fun x s => x = .plain 1 ∧ s = st) := by
  obtain ⟨c, k, L, D, rfl⟩ := D
  have hd := D.hd
  simp only [r_Disk_let_reach, m_Disk_let_reach]
  simp only [ws_seq, ws_if, ws_set, ws_sub, ws_ret, ws_retN, ws_expr, ws_sNx, ws_for, wp_op, wp_var0, wp_varS, wp_c, wp_mB, wp_toB, wp_tr, wp_trB_bl, wp_trB_non, wp_trB_int, wp_not, wp_and, wp_or, wp_if, wp_mBl, wp_nil, wp_cons, wp_tup, wp_lst, wp_lstS, wp_newL_t, wp_newL_f, wp_chain, wp_call, wp_fn, wp_sl, wp_noPart, wp_part, wp_comp, wp_yes, wp_iL, wp_iA, wp_srcL, wp_srcS, wp_srcAL, wp_srcAT, wp_iR1, wp_iR2, wp_rng1, wp_rng2, wp_iRv, wp_srcRL, wp_srcRT, wp_iEA, wp_srcEL, wp_srcET, wp_add, wp_sub, wp_mul, wp_mod, wp_div, wp_divW, wp_pow18, wp_pow17, wp_pow16, wp_pow30, wp_eqI, wp_neI, wp_cmpI, wp_isN, wp_isNotN, wp_lenL, wp_lenT, wp_abs, wp_int, wp_min2, wp_max2, wp_listL, wp_listT, wp_tupleL, wp_tupleT, wp_ixT0, wp_ixT1, wp_ixL0, wp_neg, wp_ok, wp_srcEL, wp_isB, wp_isNotB, wp_eqB, wp_neB, wp_all, wp_any, wp_slT, wp_slL, wp_rev, wp_revT, wp_revL, wp_disp, wp_pair, wp_pair0, wp_dict0, wipeW, List.foldl_cons, List.foldl_nil, wp_run, List.map, List.length, List.replicate, List.cons_append, List.nil_append, List.append_nil, List.set_cons_zero, List.set_cons_succ, if_true, if_false, Bool.not_true, Bool.not_false, Bool.true_eq_false, Bool.false_eq_true, Nat.reduceAdd, Nat.reduceSub, gName', wp_fldF, ws_fld, wp_lm, wp_din, wp_dget2, wp_dset2, wp_dpop, wp_newD, ws_raise, ws_nxE, ws_par, wp_make, wp_meth, wp_newL_f, wp_newL_t, wp_iT, Option.some.injEq, exists_eq_left', f_l hd, wp_eqP, hp, decide_true]
  exact ⟨by trivial, by trivial⟩
theorem step_ok (D : Dk st d A own) (hb : A.wt b ≠ []) (hp : A.pw ≠ some 0) : wp (r_Disk_let_reach [.ref d, .int b] st) (fun v s => v = .non ∧ ∃ own', Dk s d (A.step b) own' ∧ Go own st own' s) NoE := by
  obtain ⟨c, k, L, D, rfl⟩ := D
  obtain ⟨n1, n2, n3, n4⟩ := D.ne
  obtain ⟨r, hr⟩ := D.has hb
  obtain ⟨m1, m2, m3⟩ := n4 b r hr
  obtain ⟨h1, h2, h3⟩ := D.row b r hr
  obtain ⟨u1, u2⟩ := D.uni b h3
  obtain ⟨x, xs, hx⟩ : ∃ x xs, A.wt b = x :: xs := by
    cases e : A.wt b with
    | nil => exact absurd e hb
    | cons x xs => exact ⟨x, xs, rfl⟩
  rw [hx] at h1
  have hbn : b = (b.toNat : Int) := (Int.toNat_of_nonneg u1).symm
  have hbl : b.toNat < A.lie.length := by rw [D.len]; omega
  have hk := lk_mem D.nk hr
  have hd := D.hd
  simp only [r_Disk_let_reach, m_Disk_let_reach]
  rw [wp_run]
  simp only [List.map, List.length, List.replicate, List.cons_append, List.nil_append, List.append_nil, Nat.reduceAdd, Nat.reduceSub]
  rw [ws_seq]
  refine ws_nx (N := fun e s => e = [some (.ref d), some (.int b)] ∧ s = st) ?_ ?_
  · simp only [ws_seq, ws_if, ws_set, ws_sub, ws_ret, ws_retN, ws_expr, ws_sNx, ws_for, wp_op, wp_var0, wp_varS, wp_c, wp_mB, wp_toB, wp_tr, wp_trB_bl, wp_trB_non, wp_trB_int, wp_not, wp_and, wp_or, wp_if, wp_mBl, wp_nil, wp_cons, wp_tup, wp_lst, wp_lstS, wp_newL_t, wp_newL_f, wp_chain, wp_call, wp_fn, wp_sl, wp_noPart, wp_part, wp_comp, wp_yes, wp_iL, wp_iA, wp_srcL, wp_srcS, wp_srcAL, wp_srcAT, wp_iR1, wp_iR2, wp_rng1, wp_rng2, wp_iRv, wp_srcRL, wp_srcRT, wp_iEA, wp_srcEL, wp_srcET, wp_add, wp_sub, wp_mul, wp_mod, wp_div, wp_divW, wp_pow18, wp_pow17, wp_pow16, wp_pow30, wp_eqI, wp_neI, wp_cmpI, wp_isN, wp_isNotN, wp_lenL, wp_lenT, wp_abs, wp_int, wp_min2, wp_max2, wp_listL, wp_listT, wp_tupleL, wp_tupleT, wp_ixT0, wp_ixT1, wp_ixL0, wp_neg, wp_ok, wp_srcEL, wp_isB, wp_isNotB, wp_eqB, wp_neB, wp_all, wp_any, wp_slT, wp_slL, wp_rev, wp_revT, wp_revL, wp_disp, wp_pair, wp_pair0, wp_dict0, wipeW, List.foldl_cons, List.foldl_nil, wp_run, List.map, List.length, List.replicate, List.cons_append, List.nil_append, List.append_nil, List.set_cons_zero, List.set_cons_succ, if_true, if_false, Bool.not_true, Bool.not_false, Bool.true_eq_false, Bool.false_eq_true, Nat.reduceAdd, Nat.reduceSub, gName', wp_fldF, ws_fld, wp_lm, wp_din, wp_dget2, wp_dset2, wp_dpop, wp_newD, ws_raise, ws_nxE, ws_par, wp_make, wp_meth, wp_newL_f, wp_newL_t, wp_iT, Option.some.injEq, exists_eq_left', f_l hd, wp_eqP, decide_eq_true_eq, hp]
    exact ⟨by trivial, by trivial⟩
  rintro _ st ⟨rfl, rfl⟩
  rw [ws_seq]
  refine ws_nx (N := fun e s => e = [some (.ref d), some (.int b)] ∧ s = st.set d (DiskN c k (A.pw.map fun i => i - 1) A.n)) ?_ ?_
  · rw [ws_if]
    simp only [ws_seq, ws_if, ws_set, ws_sub, ws_ret, ws_retN, ws_expr, ws_sNx, ws_for, wp_op, wp_var0, wp_varS, wp_c, wp_mB, wp_toB, wp_tr, wp_trB_bl, wp_trB_non, wp_trB_int, wp_not, wp_and, wp_or, wp_if, wp_mBl, wp_nil, wp_cons, wp_tup, wp_lst, wp_lstS, wp_newL_t, wp_newL_f, wp_chain, wp_call, wp_fn, wp_sl, wp_noPart, wp_part, wp_comp, wp_yes, wp_iL, wp_iA, wp_srcL, wp_srcS, wp_srcAL, wp_srcAT, wp_iR1, wp_iR2, wp_rng1, wp_rng2, wp_iRv, wp_srcRL, wp_srcRT, wp_iEA, wp_srcEL, wp_srcET, wp_add, wp_sub, wp_mul, wp_mod, wp_div, wp_divW, wp_pow18, wp_pow17, wp_pow16, wp_pow30, wp_eqI, wp_neI, wp_cmpI, wp_isN, wp_isNotN, wp_lenL, wp_lenT, wp_abs, wp_int, wp_min2, wp_max2, wp_listL, wp_listT, wp_tupleL, wp_tupleT, wp_ixT0, wp_ixT1, wp_ixL0, wp_neg, wp_ok, wp_srcEL, wp_isB, wp_isNotB, wp_eqB, wp_neB, wp_all, wp_any, wp_slT, wp_slL, wp_rev, wp_revT, wp_revL, wp_disp, wp_pair, wp_pair0, wp_dict0, wipeW, List.foldl_cons, List.foldl_nil, wp_run, List.map, List.length, List.replicate, List.cons_append, List.nil_append, List.append_nil, List.set_cons_zero, List.set_cons_succ, if_true, if_false, Bool.not_true, Bool.not_false, Bool.true_eq_false, Bool.false_eq_true, Nat.reduceAdd, Nat.reduceSub, gName', wp_fldF, ws_fld, wp_lm, wp_din, wp_dget2, wp_dset2, wp_dpop, wp_newD, ws_raise, ws_nxE, ws_par, wp_make, wp_meth, wp_newL_f, wp_newL_t, wp_iT, Option.some.injEq, exists_eq_left', f_l hd, isNon_pw]
    cases e : A.pw with
    | none =>
      rw [e] at hd
      refine ⟨by trivial, List.ext_getElem? fun j => ?_⟩
      by_cases q : d = j
      · subst q; rw [get_setp hd]; exact hd
      · rw [get_setn q]
    | some p =>
      rw [e] at hd
      refine ws_faug (i := d) (c := 0) (fs := fsD c k (some p) A.n) (a := p) (b := 1) ?_ hd rfl rfl (by simp [fsD]) ?_ ⟨rfl, rfl⟩
      · simp only [ws_seq, ws_if, ws_set, ws_sub, ws_ret, ws_retN, ws_expr, ws_sNx, ws_for, wp_op, wp_var0, wp_varS, wp_c, wp_mB, wp_toB, wp_tr, wp_trB_bl, wp_trB_non, wp_trB_int, wp_not, wp_and, wp_or, wp_if, wp_mBl, wp_nil, wp_cons, wp_tup, wp_lst, wp_lstS, wp_newL_t, wp_newL_f, wp_chain, wp_call, wp_fn, wp_sl, wp_noPart, wp_part, wp_comp, wp_yes, wp_iL, wp_iA, wp_srcL, wp_srcS, wp_srcAL, wp_srcAT, wp_iR1, wp_iR2, wp_rng1, wp_rng2, wp_iRv, wp_srcRL, wp_srcRT, wp_iEA, wp_srcEL, wp_srcET, wp_add, wp_sub, wp_mul, wp_mod, wp_div, wp_divW, wp_pow18, wp_pow17, wp_pow16, wp_pow30, wp_eqI, wp_neI, wp_cmpI, wp_isN, wp_isNotN, wp_lenL, wp_lenT, wp_abs, wp_int, wp_min2, wp_max2, wp_listL, wp_listT, wp_tupleL, wp_tupleT, wp_ixT0, wp_ixT1, wp_ixL0, wp_neg, wp_ok, wp_srcEL, wp_isB, wp_isNotB, wp_eqB, wp_neB, wp_all, wp_any, wp_slT, wp_slL, wp_rev, wp_revT, wp_revL, wp_disp, wp_pair, wp_pair0, wp_dict0, wipeW, List.foldl_cons, List.foldl_nil, wp_run, List.map, List.length, List.replicate, List.cons_append, List.nil_append, List.append_nil, List.set_cons_zero, List.set_cons_succ, if_true, if_false, Bool.not_true, Bool.not_false, Bool.true_eq_false, Bool.false_eq_true, Nat.reduceAdd, Nat.reduceSub, gName', wp_fldF, ws_fld, wp_lm, wp_din, wp_dget2, wp_dset2, wp_dpop, wp_newD, ws_raise, ws_nxE, ws_par, wp_make, wp_meth, wp_newL_f, wp_newL_t, wp_iT, Option.some.injEq, exists_eq_left']
        exact ⟨by trivial, by trivial⟩
      · simp only [ws_seq, ws_if, ws_set, ws_sub, ws_ret, ws_retN, ws_expr, ws_sNx, ws_for, wp_op, wp_var0, wp_varS, wp_c, wp_mB, wp_toB, wp_tr, wp_trB_bl, wp_trB_non, wp_trB_int, wp_not, wp_and, wp_or, wp_if, wp_mBl, wp_nil, wp_cons, wp_tup, wp_lst, wp_lstS, wp_newL_t, wp_newL_f, wp_chain, wp_call, wp_fn, wp_sl, wp_noPart, wp_part, wp_comp, wp_yes, wp_iL, wp_iA, wp_srcL, wp_srcS, wp_srcAL, wp_srcAT, wp_iR1, wp_iR2, wp_rng1, wp_rng2, wp_iRv, wp_srcRL, wp_srcRT, wp_iEA, wp_srcEL, wp_srcET, wp_add, wp_sub, wp_mul, wp_mod, wp_div, wp_divW, wp_pow18, wp_pow17, wp_pow16, wp_pow30, wp_eqI, wp_neI, wp_cmpI, wp_isN, wp_isNotN, wp_lenL, wp_lenT, wp_abs, wp_int, wp_min2, wp_max2, wp_listL, wp_listT, wp_tupleL, wp_tupleT, wp_ixT0, wp_ixT1, wp_ixL0, wp_neg, wp_ok, wp_srcEL, wp_isB, wp_isNotB, wp_eqB, wp_neB, wp_all, wp_any, wp_slT, wp_slL, wp_rev, wp_revT, wp_revL, wp_disp, wp_pair, wp_pair0, wp_dict0, wipeW, List.foldl_cons, List.foldl_nil, wp_run, List.map, List.length, List.replicate, List.cons_append, List.nil_append, List.append_nil, List.set_cons_zero, List.set_cons_succ, if_true, if_false, Bool.not_true, Bool.not_false, Bool.true_eq_false, Bool.false_eq_true, Nat.reduceAdd, Nat.reduceSub, gName', wp_fldF, ws_fld, wp_lm, wp_din, wp_dget2, wp_dset2, wp_dpop, wp_newD, ws_raise, ws_nxE, ws_par, wp_make, wp_meth, wp_newL_f, wp_newL_t, wp_iT, Option.some.injEq, exists_eq_left']
        exact ⟨by trivial, by trivial⟩
  rintro _ _ ⟨rfl, rfl⟩
  generalize hp' : A.pw.map (fun i => i - 1) = p'
  have g1 : (st.set d (DiskN c k p' A.n))[d]? = some (DiskN c k p' A.n) := get_setp hd
  have g2 : (st.set d (DiskN c k p' A.n))[k]? = some (.dk (kvL L)) := by rw [get_setn n2]; exact D.hk
  have g3 : (st.set d (DiskN c k p' A.n))[r]? = some (.lst (x :: xs)) := by rw [get_setn m1.symm]; exact h1
  have g4 : ∀ n, ((st.set d (DiskN c k p' A.n)).set r n)[d]? = some (DiskN c k p' A.n) := fun n => by rw [get_setn m1]; exact g1
  have g5 : ∀ n, ((st.set d (DiskN c k p' A.n)).set r n)[c]? = some (.lst A.lie) := fun n => by rw [get_setn m2, get_setn n1]; exact D.hc
  have sl : (seqL (st.set d (DiskN c k p' A.n)) (.ref r)).isSome = true := by simp [seqL, g3]
  rw [ws_seq]
  refine ws_nx (N := fun e s => e = [some (.ref d), some (.int b)] ∧ s = ((st.set d (DiskN c k p' A.n)).set r (.lst xs)).set c (.lst (A.lie.set b.toNat x))) ?_ ?_
  · simp only [ws_seq, ws_if, ws_set, ws_sub, ws_ret, ws_retN, ws_expr, ws_sNx, ws_for, wp_op, wp_var0, wp_varS, wp_c, wp_mB, wp_toB, wp_tr, wp_trB_bl, wp_trB_non, wp_trB_int, wp_not, wp_and, wp_or, wp_if, wp_mBl, wp_nil, wp_cons, wp_tup, wp_lst, wp_lstS, wp_newL_t, wp_newL_f, wp_chain, wp_call, wp_fn, wp_sl, wp_noPart, wp_part, wp_comp, wp_yes, wp_iL, wp_iA, wp_srcL, wp_srcS, wp_srcAL, wp_srcAT, wp_iR1, wp_iR2, wp_rng1, wp_rng2, wp_iRv, wp_srcRL, wp_srcRT, wp_iEA, wp_srcEL, wp_srcET, wp_add, wp_sub, wp_mul, wp_mod, wp_div, wp_divW, wp_pow18, wp_pow17, wp_pow16, wp_pow30, wp_eqI, wp_neI, wp_cmpI, wp_isN, wp_isNotN, wp_lenL, wp_lenT, wp_abs, wp_int, wp_min2, wp_max2, wp_listL, wp_listT, wp_tupleL, wp_tupleT, wp_ixT0, wp_ixT1, wp_ixL0, wp_neg, wp_ok, wp_srcEL, wp_isB, wp_isNotB, wp_eqB, wp_neB, wp_all, wp_any, wp_slT, wp_slL, wp_rev, wp_revT, wp_revL, wp_disp, wp_pair, wp_pair0, wp_dict0, wipeW, List.foldl_cons, List.foldl_nil, wp_run, List.map, List.length, List.replicate, List.cons_append, List.nil_append, List.append_nil, List.set_cons_zero, List.set_cons_succ, if_true, if_false, Bool.not_true, Bool.not_false, Bool.true_eq_false, Bool.false_eq_true, Nat.reduceAdd, Nat.reduceSub, gName', wp_fldF, ws_fld, wp_lm, wp_din, wp_dget2, wp_dset2, wp_dpop, wp_newD, ws_raise, ws_nxE, ws_par, wp_make, wp_meth, wp_newL_f, wp_newL_t, wp_iT, Option.some.injEq, exists_eq_left', f_k g1, wp_ixD g2 keyi hk, sl, true_and, wp_pop0 g3, f_c (g4 _)]
    have := put_l (v := x) (g5 (.lst xs)) hbl
    rw [← hbn] at this
    rw [wp_stR this]
  rintro _ _ ⟨rfl, rfl⟩
  generalize hs1 : ((st.set d (DiskN c k p' A.n)).set r (.lst xs)).set c (.lst (A.lie.set b.toNat x)) = s1
  have e1 : s1[d]? = some (DiskN c k p' A.n) := by rw [← hs1, get_setn n1.symm]; exact g4 _
  have e2 : s1[k]? = some (.dk (kvL L)) := by rw [← hs1, get_setn n3, get_setn m3]; exact g2
  have e3 : s1[r]? = some (.lst xs) := by rw [← hs1, get_setn m2.symm]; exact get_setp g3
  have e4 : s1[c]? = some (.lst (A.lie.set b.toNat x)) := by rw [← hs1]; exact get_setp (g5 _)
  have e5 : ∀ j, j ≠ d → j ≠ r → j ≠ c → s1[j]? = st[j]? := fun j a1 a2 a3 => by rw [← hs1, get_setn a3.symm, get_setn a2.symm, get_setn a1.symm]
  have e6 : s1.length = st.length := by rw [← hs1]; simp
  clear hs1 g1 g2 g3 g4 g5 sl
  rw [ws_seq]
  refine ws_nx (N := fun e s => e = [some (.ref d), some (.int b)] ∧ ∃ L', s[d]? = some (DiskN c k p' A.n) ∧ s[k]? = some (.dk (kvL L')) ∧ s[c]? = some (.lst (A.lie.set b.toNat x)) ∧ s.length = st.length ∧ (∀ j, j ≠ d → j ≠ r → j ≠ c → j ≠ k → s[j]? = st[j]?) ∧ (∀ p, p ∈ L' → p ∈ L) ∧ L'.Sublist L ∧ (∀ q, (b, q) ∈ L' → s[q]? = some (.lst xs) ∧ xs ≠ []) ∧ (∀ p ∈ L, p.1 ≠ b → p ∈ L') ∧ (xs ≠ [] → b ∈ L'.map (·.1))) ?_ ?_
  · rw [ws_if]
    simp only [ws_seq, ws_if, ws_set, ws_sub, ws_ret, ws_retN, ws_expr, ws_sNx, ws_for, wp_op, wp_var0, wp_varS, wp_c, wp_mB, wp_toB, wp_tr, wp_trB_bl, wp_trB_non, wp_trB_int, wp_not, wp_and, wp_or, wp_if, wp_mBl, wp_nil, wp_cons, wp_tup, wp_lst, wp_lstS, wp_newL_t, wp_newL_f, wp_chain, wp_call, wp_fn, wp_sl, wp_noPart, wp_part, wp_comp, wp_yes, wp_iL, wp_iA, wp_srcL, wp_srcS, wp_srcAL, wp_srcAT, wp_iR1, wp_iR2, wp_rng1, wp_rng2, wp_iRv, wp_srcRL, wp_srcRT, wp_iEA, wp_srcEL, wp_srcET, wp_add, wp_sub, wp_mul, wp_mod, wp_div, wp_divW, wp_pow18, wp_pow17, wp_pow16, wp_pow30, wp_eqI, wp_neI, wp_cmpI, wp_isN, wp_isNotN, wp_lenL, wp_lenT, wp_abs, wp_int, wp_min2, wp_max2, wp_listL, wp_listT, wp_tupleL, wp_tupleT, wp_ixT0, wp_ixT1, wp_ixL0, wp_neg, wp_ok, wp_srcEL, wp_isB, wp_isNotB, wp_eqB, wp_neB, wp_all, wp_any, wp_slT, wp_slL, wp_rev, wp_revT, wp_revL, wp_disp, wp_pair, wp_pair0, wp_dict0, wipeW, List.foldl_cons, List.foldl_nil, wp_run, List.map, List.length, List.replicate, List.cons_append, List.nil_append, List.append_nil, List.set_cons_zero, List.set_cons_succ, if_true, if_false, Bool.not_true, Bool.not_false, Bool.true_eq_false, Bool.false_eq_true, Nat.reduceAdd, Nat.reduceSub, gName', wp_fldF, ws_fld, wp_lm, wp_din, wp_dget2, wp_dset2, wp_dpop, wp_newD, ws_raise, ws_nxE, ws_par, wp_make, wp_meth, wp_newL_f, wp_newL_t, wp_iT, Option.some.injEq, exists_eq_left', f_k e1, wp_ixD e2 keyi hk, trB_l e3]
    cases xs with
    | nil =>
      refine ws_del (i := k) (b := .int b) (kvs := kvL L) (k := .inl b) ?_ ?_ e2 keyi (by rw [hk]; rfl) ?_
      · simp only [ws_seq, ws_if, ws_set, ws_sub, ws_ret, ws_retN, ws_expr, ws_sNx, ws_for, wp_op, wp_var0, wp_varS, wp_c, wp_mB, wp_toB, wp_tr, wp_trB_bl, wp_trB_non, wp_trB_int, wp_not, wp_and, wp_or, wp_if, wp_mBl, wp_nil, wp_cons, wp_tup, wp_lst, wp_lstS, wp_newL_t, wp_newL_f, wp_chain, wp_call, wp_fn, wp_sl, wp_noPart, wp_part, wp_comp, wp_yes, wp_iL, wp_iA, wp_srcL, wp_srcS, wp_srcAL, wp_srcAT, wp_iR1, wp_iR2, wp_rng1, wp_rng2, wp_iRv, wp_srcRL, wp_srcRT, wp_iEA, wp_srcEL, wp_srcET, wp_add, wp_sub, wp_mul, wp_mod, wp_div, wp_divW, wp_pow18, wp_pow17, wp_pow16, wp_pow30, wp_eqI, wp_neI, wp_cmpI, wp_isN, wp_isNotN, wp_lenL, wp_lenT, wp_abs, wp_int, wp_min2, wp_max2, wp_listL, wp_listT, wp_tupleL, wp_tupleT, wp_ixT0, wp_ixT1, wp_ixL0, wp_neg, wp_ok, wp_srcEL, wp_isB, wp_isNotB, wp_eqB, wp_neB, wp_all, wp_any, wp_slT, wp_slL, wp_rev, wp_revT, wp_revL, wp_disp, wp_pair, wp_pair0, wp_dict0, wipeW, List.foldl_cons, List.foldl_nil, wp_run, List.map, List.length, List.replicate, List.cons_append, List.nil_append, List.append_nil, List.set_cons_zero, List.set_cons_succ, if_true, if_false, Bool.not_true, Bool.not_false, Bool.true_eq_false, Bool.false_eq_true, Nat.reduceAdd, Nat.reduceSub, gName', wp_fldF, ws_fld, wp_lm, wp_din, wp_dget2, wp_dset2, wp_dpop, wp_newD, ws_raise, ws_nxE, ws_par, wp_make, wp_meth, wp_newL_f, wp_newL_t, wp_iT, Option.some.injEq, exists_eq_left', f_k e1]
        exact ⟨by trivial, by trivial⟩
      · simp only [ws_seq, ws_if, ws_set, ws_sub, ws_ret, ws_retN, ws_expr, ws_sNx, ws_for, wp_op, wp_var0, wp_varS, wp_c, wp_mB, wp_toB, wp_tr, wp_trB_bl, wp_trB_non, wp_trB_int, wp_not, wp_and, wp_or, wp_if, wp_mBl, wp_nil, wp_cons, wp_tup, wp_lst, wp_lstS, wp_newL_t, wp_newL_f, wp_chain, wp_call, wp_fn, wp_sl, wp_noPart, wp_part, wp_comp, wp_yes, wp_iL, wp_iA, wp_srcL, wp_srcS, wp_srcAL, wp_srcAT, wp_iR1, wp_iR2, wp_rng1, wp_rng2, wp_iRv, wp_srcRL, wp_srcRT, wp_iEA, wp_srcEL, wp_srcET, wp_add, wp_sub, wp_mul, wp_mod, wp_div, wp_divW, wp_pow18, wp_pow17, wp_pow16, wp_pow30, wp_eqI, wp_neI, wp_cmpI, wp_isN, wp_isNotN, wp_lenL, wp_lenT, wp_abs, wp_int, wp_min2, wp_max2, wp_listL, wp_listT, wp_tupleL, wp_tupleT, wp_ixT0, wp_ixT1, wp_ixL0, wp_neg, wp_ok, wp_srcEL, wp_isB, wp_isNotB, wp_eqB, wp_neB, wp_all, wp_any, wp_slT, wp_slL, wp_rev, wp_revT, wp_revL, wp_disp, wp_pair, wp_pair0, wp_dict0, wipeW, List.foldl_cons, List.foldl_nil, wp_run, List.map, List.length, List.replicate, List.cons_append, List.nil_append, List.append_nil, List.set_cons_zero, List.set_cons_succ, if_true, if_false, Bool.not_true, Bool.not_false, Bool.true_eq_false, Bool.false_eq_true, Nat.reduceAdd, Nat.reduceSub, gName', wp_fldF, ws_fld, wp_lm, wp_din, wp_dget2, wp_dset2, wp_dpop, wp_newD, ws_raise, ws_nxE, ws_par, wp_make, wp_meth, wp_newL_f, wp_newL_t, wp_iT, Option.some.injEq, exists_eq_left']
        exact ⟨by trivial, by trivial⟩
      · rw [drop_kv]
        refine ⟨by trivial, L.filter fun p => decide (p.1 ≠ b), by rw [get_setn n2.symm]; exact e1, get_setp e2, by rw [get_setn n3.symm]; exact e4, by simp [e6], fun j a1 a2 a3 a4 => by rw [get_setn a4.symm]; exact e5 j a1 a2 a3, fun p hp => (List.mem_filter.mp hp).1, List.filter_sublist, fun q hq => ?_, fun p hp hn => List.mem_filter.mpr ⟨hp, by simpa using hn⟩, fun z => absurd rfl z⟩
        have := (List.mem_filter.mp hq).2
        simp at this
    | cons y ys =>
      refine ⟨by trivial, L, e1, e2, e4, e6, fun j a1 a2 a3 a4 => e5 j a1 a2 a3, fun p hp => hp, List.Sublist.refl _, fun q hq => ?_, fun p hp _ => hp, fun _ => List.mem_map.mpr ⟨_, hr, rfl⟩⟩
      have : q = r := by
        have l1 := lk_mem D.nk hq
        rw [hk] at l1
        simpa using l1.symm
      rw [this]
      exact ⟨e3, by simp⟩
  rintro _ s ⟨rfl, L', k1, k2, k3, k4, k5, k6, k7, k8, k9, k10⟩
  have hf : (fsD c k p' A.n).length < 1000 := by simp [fsD]
  refine ws_faug (i := d) (c := 0) (fs := fsD c k p' A.n) (a := A.n) (b := 1) ?_ k1 rfl rfl hf ?_ ⟨by trivial, d :: c :: k :: L'.map (·.2), ⟨c, k, L', ?_, rfl⟩, ?_⟩
  · simp only [ws_seq, ws_if, ws_set, ws_sub, ws_ret, ws_retN, ws_expr, ws_sNx, ws_for, wp_op, wp_var0, wp_varS, wp_c, wp_mB, wp_toB, wp_tr, wp_trB_bl, wp_trB_non, wp_trB_int, wp_not, wp_and, wp_or, wp_if, wp_mBl, wp_nil, wp_cons, wp_tup, wp_lst, wp_lstS, wp_newL_t, wp_newL_f, wp_chain, wp_call, wp_fn, wp_sl, wp_noPart, wp_part, wp_comp, wp_yes, wp_iL, wp_iA, wp_srcL, wp_srcS, wp_srcAL, wp_srcAT, wp_iR1, wp_iR2, wp_rng1, wp_rng2, wp_iRv, wp_srcRL, wp_srcRT, wp_iEA, wp_srcEL, wp_srcET, wp_add, wp_sub, wp_mul, wp_mod, wp_div, wp_divW, wp_pow18, wp_pow17, wp_pow16, wp_pow30, wp_eqI, wp_neI, wp_cmpI, wp_isN, wp_isNotN, wp_lenL, wp_lenT, wp_abs, wp_int, wp_min2, wp_max2, wp_listL, wp_listT, wp_tupleL, wp_tupleT, wp_ixT0, wp_ixT1, wp_ixL0, wp_neg, wp_ok, wp_srcEL, wp_isB, wp_isNotB, wp_eqB, wp_neB, wp_all, wp_any, wp_slT, wp_slL, wp_rev, wp_revT, wp_revL, wp_disp, wp_pair, wp_pair0, wp_dict0, wipeW, List.foldl_cons, List.foldl_nil, wp_run, List.map, List.length, List.replicate, List.cons_append, List.nil_append, List.append_nil, List.set_cons_zero, List.set_cons_succ, if_true, if_false, Bool.not_true, Bool.not_false, Bool.true_eq_false, Bool.false_eq_true, Nat.reduceAdd, Nat.reduceSub, gName', wp_fldF, ws_fld, wp_lm, wp_din, wp_dget2, wp_dset2, wp_dpop, wp_newD, ws_raise, ws_nxE, ws_par, wp_make, wp_meth, wp_newL_f, wp_newL_t, wp_iT, Option.some.injEq, exists_eq_left']
    exact ⟨by trivial, by trivial⟩
  · simp only [ws_seq, ws_if, ws_set, ws_sub, ws_ret, ws_retN, ws_expr, ws_sNx, ws_for, wp_op, wp_var0, wp_varS, wp_c, wp_mB, wp_toB, wp_tr, wp_trB_bl, wp_trB_non, wp_trB_int, wp_not, wp_and, wp_or, wp_if, wp_mBl, wp_nil, wp_cons, wp_tup, wp_lst, wp_lstS, wp_newL_t, wp_newL_f, wp_chain, wp_call, wp_fn, wp_sl, wp_noPart, wp_part, wp_comp, wp_yes, wp_iL, wp_iA, wp_srcL, wp_srcS, wp_srcAL, wp_srcAT, wp_iR1, wp_iR2, wp_rng1, wp_rng2, wp_iRv, wp_srcRL, wp_srcRT, wp_iEA, wp_srcEL, wp_srcET, wp_add, wp_sub, wp_mul, wp_mod, wp_div, wp_divW, wp_pow18, wp_pow17, wp_pow16, wp_pow30, wp_eqI, wp_neI, wp_cmpI, wp_isN, wp_isNotN, wp_lenL, wp_lenT, wp_abs, wp_int, wp_min2, wp_max2, wp_listL, wp_listT, wp_tupleL, wp_tupleT, wp_ixT0, wp_ixT1, wp_ixL0, wp_neg, wp_ok, wp_srcEL, wp_isB, wp_isNotB, wp_eqB, wp_neB, wp_all, wp_any, wp_slT, wp_slL, wp_rev, wp_revT, wp_revL, wp_disp, wp_pair, wp_pair0, wp_dict0, wipeW, List.foldl_cons, List.foldl_nil, wp_run, List.map, List.length, List.replicate, List.cons_append, List.nil_append, List.append_nil, List.set_cons_zero, List.set_cons_succ, if_true, if_false, Bool.not_true, Bool.not_false, Bool.true_eq_false, Bool.false_eq_true, Nat.reduceAdd, Nat.reduceSub, gName', wp_fldF, ws_fld, wp_lm, wp_din, wp_dget2, wp_dset2, wp_dpop, wp_newD, ws_raise, ws_nxE, ws_par, wp_make, wp_meth, wp_newL_f, wp_newL_t, wp_iT, Option.some.injEq, exists_eq_left']
    exact ⟨by trivial, by trivial⟩
  · have n5 : ∀ b q, (b, q) ∈ L' → (b, q) ∈ L := fun b q m => k6 _ m
    have ed : DiskN c k (A.step b).pw (A.step b).n = .ins 0 (putW "arrived" (.int (A.n + 1)) (fsD c k p' A.n)) := by
      unfold DiskN Acc.step
      rw [← hp'] <;> rfl
    have hh : (A.wt b).headD .non = x := by rw [hx] <;> rfl
    refine ⟨?_, ?_, ?_, fun b' q m => ?_, fun b' m => ?_, k7.map _ |>.nodup D.nk, ?_, ?_, D.uni, D.few⟩
    · rw [ed]; exact get_setp k1
    · rw [get_setn n1]
      show s[c]? = some (.lst (A.lie.set b.toNat ((A.wt b).headD .non)))
      rw [hh]; exact k3
    · rw [get_setn n2]; exact k2
    · obtain ⟨q1, q2, q3⟩ := n4 b' q (n5 _ _ m)
      obtain ⟨r1, r2, r3⟩ := D.row b' q (n5 _ _ m)
      rw [get_setn q1.symm]
      show s[q]? = some (.lst (if b' = b then (A.wt b').tail else A.wt b')) ∧ (if b' = b then (A.wt b').tail else A.wt b') ≠ [] ∧ b' ∈ A.U
      by_cases e : b' = b
      · subst e
        obtain ⟨s1, s2⟩ := k8 q m
        rw [if_pos rfl, hx]
        exact ⟨s1, s2, r3⟩
      · rw [if_neg e]
        have : q ≠ r := by
          intro z
          subst z
          have nn := (List.nodup_cons.mp (List.nodup_cons.mp (List.nodup_cons.mp D.nr).2).2).2
          have := snd_inj nn (n5 _ _ m) hr rfl
          exact e (congrArg Prod.fst this)
        rw [k5 q q1 this q2 q3]
        exact ⟨r1, r2, r3⟩
    · show (if b' = b then (A.wt b').tail else A.wt b') = []
      by_cases e : b' = b
      · rw [if_pos e, e, hx]
        by_cases z : xs = []
        · exact z
        · exact absurd (e ▸ k10 z) m
      · rw [if_neg e]
        refine D.non b' fun z => m ?_
        obtain ⟨p, p1, p2⟩ := List.mem_map.mp z
        exact List.mem_map.mpr ⟨p, k9 p p1 (by rw [p2]; exact e), p2⟩
    · exact ((((k7.map _).cons_cons k).cons_cons c).cons_cons d).nodup D.nr
    · show (A.lie.set b.toNat _).length = A.B
      rw [List.length_set]; exact D.len
  · refine ⟨by simp [k4], fun j n h e => ?_, fun j h => .inl ?_⟩
    · simp only [List.mem_cons, not_or] at h
      obtain ⟨h1, h2, h3, h4⟩ := h
      rw [get_setn (fun z => h1 z.symm), k5 j h1 (fun z => h4 (List.mem_map.mpr ⟨_, hr, z.symm⟩)) h2 h3]
      exact e
    · simp only [List.mem_cons, List.mem_map] at h ⊢
      rcases h with h | h | h | ⟨p, h, e⟩
      · exact .inl h
      · exact .inr (.inl h)
      · exact .inr (.inr (.inl h))
      · exact .inr (.inr (.inr ⟨p, k6 p h, e⟩))
end
end Lw
namespace Lw
open PySem L2 Mi
/-- what is read -/
def Acc.at (A : Acc) (b : Int) : W := A.lie.getD b.toNat .non
def Acc.top (A : Acc) (b : Int) : W := if A.wt b = [] then A.at b else (A.wt b).getLastD .non
section
variable {st : Sto} {d : Nat} {A : Acc} {own : List Nat} {b : Int} {P : W → Sto → Prop} {E : Xc → Sto → Prop}
theorem blocks_ok (D : Dk st d A own) : wp (r_Disk_blocks [.ref d] st) P E ↔ P (.int A.B) st := by
  obtain ⟨c, k, L, D, rfl⟩ := D
  simp only [r_Disk_blocks, m_Disk_blocks]
  simp only [ws_seq, ws_if, ws_set, ws_sub, ws_ret, ws_retN, ws_expr, ws_sNx, ws_for, wp_op, wp_var0, wp_varS, wp_c, wp_mB, wp_toB, wp_tr, wp_trB_bl, wp_trB_non, wp_trB_int, wp_not, wp_and, wp_or, wp_if, wp_mBl, wp_nil, wp_cons, wp_tup, wp_lst, wp_lstS, wp_newL_t, wp_newL_f, wp_chain, wp_call, wp_fn, wp_sl, wp_noPart, wp_part, wp_comp, wp_yes, wp_iL, wp_iA, wp_srcL, wp_srcS, wp_srcAL, wp_srcAT, wp_iR1, wp_iR2, wp_rng1, wp_rng2, wp_iRv, wp_srcRL, wp_srcRT, wp_iEA, wp_srcEL, wp_srcET, wp_add, wp_sub, wp_mul, wp_mod, wp_div, wp_divW, wp_pow18, wp_pow17, wp_pow16, wp_pow30, wp_eqI, wp_neI, wp_cmpI, wp_isN, wp_isNotN, wp_lenL, wp_lenT, wp_abs, wp_int, wp_min2, wp_max2, wp_listL, wp_listT, wp_tupleL, wp_tupleT, wp_ixT0, wp_ixT1, wp_ixL0, wp_neg, wp_ok, wp_srcEL, wp_isB, wp_isNotB, wp_eqB, wp_neB, wp_all, wp_any, wp_slT, wp_slL, wp_rev, wp_revT, wp_revL, wp_disp, wp_pair, wp_pair0, wp_dict0, wipeW, List.foldl_cons, List.foldl_nil, wp_run, List.map, List.length, List.replicate, List.cons_append, List.nil_append, List.append_nil, List.set_cons_zero, List.set_cons_succ, if_true, if_false, Bool.not_true, Bool.not_false, Bool.true_eq_false, Bool.false_eq_true, Nat.reduceAdd, Nat.reduceSub, gName', wp_fldF, ws_fld, wp_lm, wp_din, wp_dget2, wp_dset2, wp_dpop, wp_newD, ws_raise, ws_nxE, ws_par, wp_make, wp_meth, wp_newL_f, wp_newL_t, wp_iT, Option.some.injEq, exists_eq_left', f_c D.hd, wp_lenR D.hc, D.len]
theorem meth_k {m : Str} {r : RunM} (D : Dk st d A own) (h : (fsD 0 0 none 0).lookup m = none := by rfl) : methF [(0, r)] m (.ref d) st = some r := by
  obtain ⟨c, k, L, D, rfl⟩ := D
  refine meth_d D.hd ?_
  simp only [fsD, List.lookup] at h ⊢
  split at h <;> simp_all
  split at h <;> simp_all
  split at h <;> simp_all
  split at h <;> simp_all
theorem demand_ok (D : Dk st d A own) (h0 : 0 ≤ b) (h1 : b < A.B) : wp (r_Disk_demand_block [.ref d, .int b] st) P E ↔ P .non st := by
  have c1 : decide (0 ≤ b) = true := decide_eq_true h0
  have c2 : decide (b ≤ (A.B : Int) - 1) = true := decide_eq_true (by omega)
  simp only [r_Disk_demand_block, m_Disk_demand_block]
  simp only [ws_seq, ws_if, ws_set, ws_sub, ws_ret, ws_retN, ws_expr, ws_sNx, ws_for, wp_op, wp_var0, wp_varS, wp_c, wp_mB, wp_toB, wp_tr, wp_trB_bl, wp_trB_non, wp_trB_int, wp_not, wp_and, wp_or, wp_if, wp_mBl, wp_nil, wp_cons, wp_tup, wp_lst, wp_lstS, wp_newL_t, wp_newL_f, wp_chain, wp_call, wp_fn, wp_sl, wp_noPart, wp_part, wp_comp, wp_yes, wp_iL, wp_iA, wp_srcL, wp_srcS, wp_srcAL, wp_srcAT, wp_iR1, wp_iR2, wp_rng1, wp_rng2, wp_iRv, wp_srcRL, wp_srcRT, wp_iEA, wp_srcEL, wp_srcET, wp_add, wp_sub, wp_mul, wp_mod, wp_div, wp_divW, wp_pow18, wp_pow17, wp_pow16, wp_pow30, wp_eqI, wp_neI, wp_cmpI, wp_isN, wp_isNotN, wp_lenL, wp_lenT, wp_abs, wp_int, wp_min2, wp_max2, wp_listL, wp_listT, wp_tupleL, wp_tupleT, wp_ixT0, wp_ixT1, wp_ixL0, wp_neg, wp_ok, wp_srcEL, wp_isB, wp_isNotB, wp_eqB, wp_neB, wp_all, wp_any, wp_slT, wp_slL, wp_rev, wp_revT, wp_revL, wp_disp, wp_pair, wp_pair0, wp_dict0, wipeW, List.foldl_cons, List.foldl_nil, wp_run, List.map, List.length, List.replicate, List.cons_append, List.nil_append, List.append_nil, List.set_cons_zero, List.set_cons_succ, if_true, if_false, Bool.not_true, Bool.not_false, Bool.true_eq_false, Bool.false_eq_true, Nat.reduceAdd, Nat.reduceSub, gName', wp_fldF, ws_fld, wp_lm, wp_din, wp_dget2, wp_dset2, wp_dpop, wp_newD, ws_raise, ws_nxE, ws_par, wp_make, wp_meth, wp_newL_f, wp_newL_t, wp_iT, Option.some.injEq, exists_eq_left', meth_k (m := "blocks") D, blocks_ok D, within_ok, c1, c2, Bool.and_self]
theorem wp_ixAt {c : Nat} {xs : List W} (e : st[c]? = some (.lst xs)) (h0 : 0 ≤ b) (h1 : b < xs.length) : wp (wIx (.ref c) (.int b) st) P E ↔ P (xs.getD b.toNat .non) st := by
  have h : b.toNat < xs.length := by omega
  have := wp_ixR (P := P) (E := E) e (List.getElem?_eq_getElem h)
  rw [Int.toNat_of_nonneg h0] at this
  rw [this, List.getD_eq_getElem?_getD, List.getElem?_eq_getElem h]; exact Iff.rfl
theorem wp_last {xs : List W} {r : Nat} (e : st[r]? = some (.lst xs)) (h : xs ≠ []) : wp (wIx (.ref r) (.int (-1)) st) P E ↔ P (xs.getLastD .non) st := by
  obtain ⟨m, hm⟩ : ∃ m, xs.length = m + 1 := ⟨xs.length - 1, by have := List.length_pos_iff.mpr h; omega⟩
  have a1 : ¬ (0 : Int) ≤ -1 := by omega
  have a2 : -(xs.length : Int) ≤ -1 := by omega
  have a3 : (-1 + (xs.length : Int)).toNat = m := by omega
  have x1 : ixN xs.length (-1) = some m := by simp only [ixN, if_neg a1, if_pos a2, a3]
  have x2 : xs[m]? = some (xs.getLastD .non) := by
    rw [List.getLastD_eq_getLast?, List.getLast?_eq_getElem?, hm]
    simp only [Nat.add_sub_cancel]
    rw [List.getElem?_eq_getElem (by omega)]; rfl
  have : wIx (.ref r) (.int (-1)) st = .ok (xs.getLastD .non) st := by
    simp only [wIx, dkOf, seqL, e, wNth, atI, x1, Option.bind_some, x2]
  rw [this]; exact Iff.rfl
theorem wp_lastL {xs : List W} (h : xs ≠ []) : wp (wIx (.lst xs) (.int (-1)) st) P E ↔ P (xs.getLastD .non) st := by
  obtain ⟨m, hm⟩ : ∃ m, xs.length = m + 1 := ⟨xs.length - 1, by have := List.length_pos_iff.mpr h; omega⟩
  have a1 : ¬ (0 : Int) ≤ -1 := by omega
  have a2 : -(xs.length : Int) ≤ -1 := by omega
  have a3 : (-1 + (xs.length : Int)).toNat = m := by omega
  have x1 : ixN xs.length (-1) = some m := by simp only [ixN, if_neg a1, if_pos a2, a3]
  have x2 : xs[m]? = some (xs.getLastD .non) := by
    rw [List.getLastD_eq_getLast?, List.getLast?_eq_getElem?, hm]
    simp only [Nat.add_sub_cancel]
    rw [List.getElem?_eq_getElem (by omega)]; rfl
  have : wIx (.lst xs) (.int (-1)) st = .ok (xs.getLastD .non) st := by
    simp only [wIx, dkOf, seqL, wNth, atI, x1, Option.bind_some, x2]
  rw [this]; exact Iff.rfl
theorem lying_ok (D : Dk st d A own) (h0 : 0 ≤ b) (h1 : b < A.B) : wp (r_Disk_lying [.ref d, .int b] st) P E ↔ P (A.at b) st := by
  have dm := fun P E => demand_ok (P := P) (E := E) D h0 h1
  have mt := fun r => meth_k (m := "demand_block") (r := r) D
  obtain ⟨c, k, L, D, rfl⟩ := D
  simp only [r_Disk_lying, m_Disk_lying]
  simp only [ws_seq, ws_if, ws_set, ws_sub, ws_ret, ws_retN, ws_expr, ws_sNx, ws_for, wp_op, wp_var0, wp_varS, wp_c, wp_mB, wp_toB, wp_tr, wp_trB_bl, wp_trB_non, wp_trB_int, wp_not, wp_and, wp_or, wp_if, wp_mBl, wp_nil, wp_cons, wp_tup, wp_lst, wp_lstS, wp_newL_t, wp_newL_f, wp_chain, wp_call, wp_fn, wp_sl, wp_noPart, wp_part, wp_comp, wp_yes, wp_iL, wp_iA, wp_srcL, wp_srcS, wp_srcAL, wp_srcAT, wp_iR1, wp_iR2, wp_rng1, wp_rng2, wp_iRv, wp_srcRL, wp_srcRT, wp_iEA, wp_srcEL, wp_srcET, wp_add, wp_sub, wp_mul, wp_mod, wp_div, wp_divW, wp_pow18, wp_pow17, wp_pow16, wp_pow30, wp_eqI, wp_neI, wp_cmpI, wp_isN, wp_isNotN, wp_lenL, wp_lenT, wp_abs, wp_int, wp_min2, wp_max2, wp_listL, wp_listT, wp_tupleL, wp_tupleT, wp_ixT0, wp_ixT1, wp_ixL0, wp_neg, wp_ok, wp_srcEL, wp_isB, wp_isNotB, wp_eqB, wp_neB, wp_all, wp_any, wp_slT, wp_slL, wp_rev, wp_revT, wp_revL, wp_disp, wp_pair, wp_pair0, wp_dict0, wipeW, List.foldl_cons, List.foldl_nil, wp_run, List.map, List.length, List.replicate, List.cons_append, List.nil_append, List.append_nil, List.set_cons_zero, List.set_cons_succ, if_true, if_false, Bool.not_true, Bool.not_false, Bool.true_eq_false, Bool.false_eq_true, Nat.reduceAdd, Nat.reduceSub, gName', wp_fldF, ws_fld, wp_lm, wp_din, wp_dget2, wp_dset2, wp_dpop, wp_newD, ws_raise, ws_nxE, ws_par, wp_make, wp_meth, wp_newL_f, wp_newL_t, wp_iT, Option.some.injEq, exists_eq_left', mt, dm, f_c D.hd]
  rw [wp_ixAt D.hc h0 (by rw [D.len]; exact h1)]; exact Iff.rfl
theorem reached_ok (D : Dk st d A own) : wp (r_Disk_reached [.ref d] st) P E ↔ P (.int A.n) st := by
  obtain ⟨c, k, L, D, rfl⟩ := D
  simp only [r_Disk_reached, m_Disk_reached]
  simp only [ws_seq, ws_if, ws_set, ws_sub, ws_ret, ws_retN, ws_expr, ws_sNx, ws_for, wp_op, wp_var0, wp_varS, wp_c, wp_mB, wp_toB, wp_tr, wp_trB_bl, wp_trB_non, wp_trB_int, wp_not, wp_and, wp_or, wp_if, wp_mBl, wp_nil, wp_cons, wp_tup, wp_lst, wp_lstS, wp_newL_t, wp_newL_f, wp_chain, wp_call, wp_fn, wp_sl, wp_noPart, wp_part, wp_comp, wp_yes, wp_iL, wp_iA, wp_srcL, wp_srcS, wp_srcAL, wp_srcAT, wp_iR1, wp_iR2, wp_rng1, wp_rng2, wp_iRv, wp_srcRL, wp_srcRT, wp_iEA, wp_srcEL, wp_srcET, wp_add, wp_sub, wp_mul, wp_mod, wp_div, wp_divW, wp_pow18, wp_pow17, wp_pow16, wp_pow30, wp_eqI, wp_neI, wp_cmpI, wp_isN, wp_isNotN, wp_lenL, wp_lenT, wp_abs, wp_int, wp_min2, wp_max2, wp_listL, wp_listT, wp_tupleL, wp_tupleT, wp_ixT0, wp_ixT1, wp_ixL0, wp_neg, wp_ok, wp_srcEL, wp_isB, wp_isNotB, wp_eqB, wp_neB, wp_all, wp_any, wp_slT, wp_slL, wp_rev, wp_revT, wp_revL, wp_disp, wp_pair, wp_pair0, wp_dict0, wipeW, List.foldl_cons, List.foldl_nil, wp_run, List.map, List.length, List.replicate, List.cons_append, List.nil_append, List.append_nil, List.set_cons_zero, List.set_cons_succ, if_true, if_false, Bool.not_true, Bool.not_false, Bool.true_eq_false, Bool.false_eq_true, Nat.reduceAdd, Nat.reduceSub, gName', wp_fldF, ws_fld, wp_lm, wp_din, wp_dget2, wp_dset2, wp_dpop, wp_newD, ws_raise, ws_nxE, ws_par, wp_make, wp_meth, wp_newL_f, wp_newL_t, wp_iT, Option.some.injEq, exists_eq_left', f_a D.hd]
theorem DkS.isk {c k : Nat} {L : List (Int × Nat)} (D : DkS st d c k L A) (b : Int) : (lkW (kvL L) (.inl b)).isSome = !(A.wt b).isEmpty := by
  by_cases h : A.wt b = []
  · have : b ∉ L.map (·.1) := fun m => by
      obtain ⟨⟨x, r⟩, m1, rfl⟩ := List.mem_map.mp m
      exact (D.row _ _ m1).2.1 h
    rw [lk_not this, h]; rfl
  · obtain ⟨r, hr⟩ := D.has h
    rw [lk_mem D.nk hr, isNil_false h]; rfl
theorem read_ok (D : Dk st d A own) (h0 : 0 ≤ b) (h1 : b < A.B) : wp (r_Disk_read [.ref d, .int b] st) P E ↔ P (A.top b) st := by
  have dm := fun P E => demand_ok (P := P) (E := E) D h0 h1
  have mt := fun r => meth_k (m := "demand_block") (r := r) D
  obtain ⟨c, k, L, D, rfl⟩ := D
  simp only [r_Disk_read, m_Disk_read]
  simp only [ws_seq, ws_if, ws_set, ws_sub, ws_ret, ws_retN, ws_expr, ws_sNx, ws_for, wp_op, wp_var0, wp_varS, wp_c, wp_mB, wp_toB, wp_tr, wp_trB_bl, wp_trB_non, wp_trB_int, wp_not, wp_and, wp_or, wp_if, wp_mBl, wp_nil, wp_cons, wp_tup, wp_lst, wp_lstS, wp_newL_t, wp_newL_f, wp_chain, wp_call, wp_fn, wp_sl, wp_noPart, wp_part, wp_comp, wp_yes, wp_iL, wp_iA, wp_srcL, wp_srcS, wp_srcAL, wp_srcAT, wp_iR1, wp_iR2, wp_rng1, wp_rng2, wp_iRv, wp_srcRL, wp_srcRT, wp_iEA, wp_srcEL, wp_srcET, wp_add, wp_sub, wp_mul, wp_mod, wp_div, wp_divW, wp_pow18, wp_pow17, wp_pow16, wp_pow30, wp_eqI, wp_neI, wp_cmpI, wp_isN, wp_isNotN, wp_lenL, wp_lenT, wp_abs, wp_int, wp_min2, wp_max2, wp_listL, wp_listT, wp_tupleL, wp_tupleT, wp_ixT0, wp_ixT1, wp_ixL0, wp_neg, wp_ok, wp_srcEL, wp_isB, wp_isNotB, wp_eqB, wp_neB, wp_all, wp_any, wp_slT, wp_slL, wp_rev, wp_revT, wp_revL, wp_disp, wp_pair, wp_pair0, wp_dict0, wipeW, List.foldl_cons, List.foldl_nil, wp_run, List.map, List.length, List.replicate, List.cons_append, List.nil_append, List.append_nil, List.set_cons_zero, List.set_cons_succ, if_true, if_false, Bool.not_true, Bool.not_false, Bool.true_eq_false, Bool.false_eq_true, Nat.reduceAdd, Nat.reduceSub, gName', wp_fldF, ws_fld, wp_lm, wp_din, wp_dget2, wp_dset2, wp_dpop, wp_newD, ws_raise, ws_nxE, ws_par, wp_make, wp_meth, wp_newL_f, wp_newL_t, wp_iT, Option.some.injEq, exists_eq_left', mt, dm, f_c D.hd, f_k D.hd, wp_dinR D.hk keyi, D.isk]
  unfold Acc.top
  by_cases h : A.wt b = []
  · rw [if_pos h, h]
    simp only [ws_seq, ws_if, ws_set, ws_sub, ws_ret, ws_retN, ws_expr, ws_sNx, ws_for, wp_op, wp_var0, wp_varS, wp_c, wp_mB, wp_toB, wp_tr, wp_trB_bl, wp_trB_non, wp_trB_int, wp_not, wp_and, wp_or, wp_if, wp_mBl, wp_nil, wp_cons, wp_tup, wp_lst, wp_lstS, wp_newL_t, wp_newL_f, wp_chain, wp_call, wp_fn, wp_sl, wp_noPart, wp_part, wp_comp, wp_yes, wp_iL, wp_iA, wp_srcL, wp_srcS, wp_srcAL, wp_srcAT, wp_iR1, wp_iR2, wp_rng1, wp_rng2, wp_iRv, wp_srcRL, wp_srcRT, wp_iEA, wp_srcEL, wp_srcET, wp_add, wp_sub, wp_mul, wp_mod, wp_div, wp_divW, wp_pow18, wp_pow17, wp_pow16, wp_pow30, wp_eqI, wp_neI, wp_cmpI, wp_isN, wp_isNotN, wp_lenL, wp_lenT, wp_abs, wp_int, wp_min2, wp_max2, wp_listL, wp_listT, wp_tupleL, wp_tupleT, wp_ixT0, wp_ixT1, wp_ixL0, wp_neg, wp_ok, wp_srcEL, wp_isB, wp_isNotB, wp_eqB, wp_neB, wp_all, wp_any, wp_slT, wp_slL, wp_rev, wp_revT, wp_revL, wp_disp, wp_pair, wp_pair0, wp_dict0, wipeW, List.foldl_cons, List.foldl_nil, wp_run, List.map, List.length, List.replicate, List.cons_append, List.nil_append, List.append_nil, List.set_cons_zero, List.set_cons_succ, if_true, if_false, Bool.not_true, Bool.not_false, Bool.true_eq_false, Bool.false_eq_true, Nat.reduceAdd, Nat.reduceSub, gName', wp_fldF, ws_fld, wp_lm, wp_din, wp_dget2, wp_dset2, wp_dpop, wp_newD, ws_raise, ws_nxE, ws_par, wp_make, wp_meth, wp_newL_f, wp_newL_t, wp_iT, Option.some.injEq, exists_eq_left', List.isEmpty_nil]
    rw [wp_ixAt D.hc h0 (by rw [D.len]; exact h1)]; exact Iff.rfl
  · obtain ⟨r, hr⟩ := D.has h
    rw [if_neg h, isNil_false h]
    simp only [ws_seq, ws_if, ws_set, ws_sub, ws_ret, ws_retN, ws_expr, ws_sNx, ws_for, wp_op, wp_var0, wp_varS, wp_c, wp_mB, wp_toB, wp_tr, wp_trB_bl, wp_trB_non, wp_trB_int, wp_not, wp_and, wp_or, wp_if, wp_mBl, wp_nil, wp_cons, wp_tup, wp_lst, wp_lstS, wp_newL_t, wp_newL_f, wp_chain, wp_call, wp_fn, wp_sl, wp_noPart, wp_part, wp_comp, wp_yes, wp_iL, wp_iA, wp_srcL, wp_srcS, wp_srcAL, wp_srcAT, wp_iR1, wp_iR2, wp_rng1, wp_rng2, wp_iRv, wp_srcRL, wp_srcRT, wp_iEA, wp_srcEL, wp_srcET, wp_add, wp_sub, wp_mul, wp_mod, wp_div, wp_divW, wp_pow18, wp_pow17, wp_pow16, wp_pow30, wp_eqI, wp_neI, wp_cmpI, wp_isN, wp_isNotN, wp_lenL, wp_lenT, wp_abs, wp_int, wp_min2, wp_max2, wp_listL, wp_listT, wp_tupleL, wp_tupleT, wp_ixT0, wp_ixT1, wp_ixL0, wp_neg, wp_ok, wp_srcEL, wp_isB, wp_isNotB, wp_eqB, wp_neB, wp_all, wp_any, wp_slT, wp_slL, wp_rev, wp_revT, wp_revL, wp_disp, wp_pair, wp_pair0, wp_dict0, wipeW, List.foldl_cons, List.foldl_nil, wp_run, List.map, List.length, List.replicate, List.cons_append, List.nil_append, List.append_nil, List.set_cons_zero, List.set_cons_succ, if_true, if_false, Bool.not_true, Bool.not_false, Bool.true_eq_false, Bool.false_eq_true, Nat.reduceAdd, Nat.reduceSub, gName', wp_fldF, ws_fld, wp_lm, wp_din, wp_dget2, wp_dset2, wp_dpop, wp_newD, ws_raise, ws_nxE, ws_par, wp_make, wp_meth, wp_newL_f, wp_newL_t, wp_iT, Option.some.injEq, exists_eq_left', wp_ixD D.hk keyi (lk_mem D.nk hr)]
    rw [wp_last (D.row _ _ hr).1 h]
/-- one write reaches the disk, or the power is gone -/
theorem reach_ok (D : Dk st d A own) (h0 : 0 ≤ b) (h1 : b < A.B) (hb : A.wt b ≠ []) : wp (r_Disk_reach [.ref d, .int b] st) (fun v s => v = .non ∧ A.pw ≠ some 0 ∧ ∃ own', Dk s d (A.step b) own' ∧ Go own st own' s) (fun x s => x = .plain 1 ∧ A.pw = some 0 ∧ s = st) := by
  have dm := fun P E => demand_ok (P := P) (E := E) D h0 h1
  have mt := fun m r h => meth_k (m := m) (r := r) D h
  have so := fun p => stop_ok (b := b) D p
  have go := fun p => step_ok (b := b) D hb p
  obtain ⟨c, k, L, D, rfl⟩ := D
  simp only [r_Disk_reach, m_Disk_reach]
  simp only [ws_seq, ws_if, ws_set, ws_sub, ws_ret, ws_retN, ws_expr, ws_sNx, ws_for, wp_op, wp_var0, wp_varS, wp_c, wp_mB, wp_toB, wp_tr, wp_trB_bl, wp_trB_non, wp_trB_int, wp_not, wp_and, wp_or, wp_if, wp_mBl, wp_nil, wp_cons, wp_tup, wp_lst, wp_lstS, wp_newL_t, wp_newL_f, wp_chain, wp_call, wp_fn, wp_sl, wp_noPart, wp_part, wp_comp, wp_yes, wp_iL, wp_iA, wp_srcL, wp_srcS, wp_srcAL, wp_srcAT, wp_iR1, wp_iR2, wp_rng1, wp_rng2, wp_iRv, wp_srcRL, wp_srcRT, wp_iEA, wp_srcEL, wp_srcET, wp_add, wp_sub, wp_mul, wp_mod, wp_div, wp_divW, wp_pow18, wp_pow17, wp_pow16, wp_pow30, wp_eqI, wp_neI, wp_cmpI, wp_isN, wp_isNotN, wp_lenL, wp_lenT, wp_abs, wp_int, wp_min2, wp_max2, wp_listL, wp_listT, wp_tupleL, wp_tupleT, wp_ixT0, wp_ixT1, wp_ixL0, wp_neg, wp_ok, wp_srcEL, wp_isB, wp_isNotB, wp_eqB, wp_neB, wp_all, wp_any, wp_slT, wp_slL, wp_rev, wp_revT, wp_revL, wp_disp, wp_pair, wp_pair0, wp_dict0, wipeW, List.foldl_cons, List.foldl_nil, wp_run, List.map, List.length, List.replicate, List.cons_append, List.nil_append, List.append_nil, List.set_cons_zero, List.set_cons_succ, if_true, if_false, Bool.not_true, Bool.not_false, Bool.true_eq_false, Bool.false_eq_true, Nat.reduceAdd, Nat.reduceSub, gName', wp_fldF, ws_fld, wp_lm, wp_din, wp_dget2, wp_dset2, wp_dpop, wp_newD, ws_raise, ws_nxE, ws_par, wp_make, wp_meth, wp_newL_f, wp_newL_t, wp_iT, Option.some.injEq, exists_eq_left', mt "demand_block" _ rfl, dm, f_k D.hd, wp_dinR D.hk keyi, D.isk, isNil_false hb, mt "let_reach" _ rfl]
  by_cases p : A.pw = some 0
  · exact wp_mono (so p) (fun _ _ z => z.elim) fun x s z => ⟨z.1, p, z.2⟩
  · refine wp_no (go p) ?_
    rintro v s ⟨rfl, z⟩
    exact ⟨by trivial, p, z⟩
theorem power_ok (D : Dk st d A own) (p : Option Int) (hp : ∀ i, p = some i → 0 ≤ i ∧ i ≤ 1000000) : wp (r_Disk_power [.ref d, pwW p] st) (fun v s => v = .non ∧ Dk s d (A.power p) own ∧ Go own st own s) NoE := by
  obtain ⟨c, k, L, D, rfl⟩ := D
  have e1 := setF_of (f := "left") (v := pwW p) (cs := [0]) D.hd rfl (by simp [fsD])
  have n := D.ne
  have fin : Dk (st.set d (.ins 0 (putW "left" (pwW p) (fsD c k A.pw A.n)))) d (A.power p) (d :: c :: k :: L.map (·.2)) ∧ Go (d :: c :: k :: L.map (·.2)) st (d :: c :: k :: L.map (·.2)) (st.set d (.ins 0 (putW "left" (pwW p) (fsD c k A.pw A.n)))) := by
    refine ⟨⟨c, k, L, ⟨get_setp D.hd, by rw [get_setn n.1]; exact D.hc, by rw [get_setn n.2.1]; exact D.hk, fun b r m => ?_, D.non, D.nk, D.nr, D.len, D.uni, D.few⟩, rfl⟩, Go.set (by simp) fun i h => h⟩
    rw [get_setn (n.2.2.2 b r m).1.symm]
    exact D.row b r m
  simp only [r_Disk_power, m_Disk_power]
  cases p with
  | none =>
    simp only [ws_seq, ws_if, ws_set, ws_sub, ws_ret, ws_retN, ws_expr, ws_sNx, ws_for, wp_op, wp_var0, wp_varS, wp_c, wp_mB, wp_toB, wp_tr, wp_trB_bl, wp_trB_non, wp_trB_int, wp_not, wp_and, wp_or, wp_if, wp_mBl, wp_nil, wp_cons, wp_tup, wp_lst, wp_lstS, wp_newL_t, wp_newL_f, wp_chain, wp_call, wp_fn, wp_sl, wp_noPart, wp_part, wp_comp, wp_yes, wp_iL, wp_iA, wp_srcL, wp_srcS, wp_srcAL, wp_srcAT, wp_iR1, wp_iR2, wp_rng1, wp_rng2, wp_iRv, wp_srcRL, wp_srcRT, wp_iEA, wp_srcEL, wp_srcET, wp_add, wp_sub, wp_mul, wp_mod, wp_div, wp_divW, wp_pow18, wp_pow17, wp_pow16, wp_pow30, wp_eqI, wp_neI, wp_cmpI, wp_isN, wp_isNotN, wp_lenL, wp_lenT, wp_abs, wp_int, wp_min2, wp_max2, wp_listL, wp_listT, wp_tupleL, wp_tupleT, wp_ixT0, wp_ixT1, wp_ixL0, wp_neg, wp_ok, wp_srcEL, wp_isB, wp_isNotB, wp_eqB, wp_neB, wp_all, wp_any, wp_slT, wp_slL, wp_rev, wp_revT, wp_revL, wp_disp, wp_pair, wp_pair0, wp_dict0, wipeW, List.foldl_cons, List.foldl_nil, wp_run, List.map, List.length, List.replicate, List.cons_append, List.nil_append, List.append_nil, List.set_cons_zero, List.set_cons_succ, if_true, if_false, Bool.not_true, Bool.not_false, Bool.true_eq_false, Bool.false_eq_true, Nat.reduceAdd, Nat.reduceSub, gName', wp_fldF, ws_fld, wp_lm, wp_din, wp_dget2, wp_dset2, wp_dpop, wp_newD, ws_raise, ws_nxE, ws_par, wp_make, wp_meth, wp_newL_f, wp_newL_t, wp_iT, Option.some.injEq, exists_eq_left', pwW, Mi.isNon]
    rw [show W.non = pwW none by rfl, wp_setR e1]
    exact ⟨by trivial, fin⟩
  | some i =>
    obtain ⟨p1, p2⟩ := hp i rfl
    simp only [ws_seq, ws_if, ws_set, ws_sub, ws_ret, ws_retN, ws_expr, ws_sNx, ws_for, wp_op, wp_var0, wp_varS, wp_c, wp_mB, wp_toB, wp_tr, wp_trB_bl, wp_trB_non, wp_trB_int, wp_not, wp_and, wp_or, wp_if, wp_mBl, wp_nil, wp_cons, wp_tup, wp_lst, wp_lstS, wp_newL_t, wp_newL_f, wp_chain, wp_call, wp_fn, wp_sl, wp_noPart, wp_part, wp_comp, wp_yes, wp_iL, wp_iA, wp_srcL, wp_srcS, wp_srcAL, wp_srcAT, wp_iR1, wp_iR2, wp_rng1, wp_rng2, wp_iRv, wp_srcRL, wp_srcRT, wp_iEA, wp_srcEL, wp_srcET, wp_add, wp_sub, wp_mul, wp_mod, wp_div, wp_divW, wp_pow18, wp_pow17, wp_pow16, wp_pow30, wp_eqI, wp_neI, wp_cmpI, wp_isN, wp_isNotN, wp_lenL, wp_lenT, wp_abs, wp_int, wp_min2, wp_max2, wp_listL, wp_listT, wp_tupleL, wp_tupleT, wp_ixT0, wp_ixT1, wp_ixL0, wp_neg, wp_ok, wp_srcEL, wp_isB, wp_isNotB, wp_eqB, wp_neB, wp_all, wp_any, wp_slT, wp_slL, wp_rev, wp_revT, wp_revL, wp_disp, wp_pair, wp_pair0, wp_dict0, wipeW, List.foldl_cons, List.foldl_nil, wp_run, List.map, List.length, List.replicate, List.cons_append, List.nil_append, List.append_nil, List.set_cons_zero, List.set_cons_succ, if_true, if_false, Bool.not_true, Bool.not_false, Bool.true_eq_false, Bool.false_eq_true, Nat.reduceAdd, Nat.reduceSub, gName', wp_fldF, ws_fld, wp_lm, wp_din, wp_dget2, wp_dset2, wp_dpop, wp_newD, ws_raise, ws_nxE, ws_par, wp_make, wp_meth, wp_newL_f, wp_newL_t, wp_iT, Option.some.injEq, exists_eq_left', pwW, Mi.isNon, within_ok, decide_eq_true p1, decide_eq_true p2, Bool.and_self]
    rw [show W.int i = pwW (some i) by rfl, wp_setR e1]
    exact ⟨by trivial, fin⟩
end
end Lw
namespace Lw
open PySem L2 Mi
theorem nodup_few : ∀ {l u : List Int}, l.Nodup → (∀ x ∈ l, x ∈ u) → l.length ≤ u.length
  | [], u, _, _ => Nat.zero_le _
  | a :: l, u, nd, h => by
    obtain ⟨n1, n2⟩ := List.nodup_cons.mp nd
    have ha : a ∈ u := h a (by simp)
    have := nodup_few (l := l) (u := u.erase a) n2 fun x hx => (List.mem_erase_of_ne (fun e : x = a => n1 (e ▸ hx))).mpr (h x (by simp [hx]))
    rw [List.length_erase_of_mem ha] at this
    have := List.length_pos_of_mem ha
    simp only [List.length_cons]
    omega
theorem putKW_new {kvs : List (Key × W)} {k : Key} {v : W} (h : ∀ kv ∈ kvs, kv.1 ≠ k) : putKW kvs k v = kvs ++ [(k, v)] := by
  have : (kvs.any fun kv => decide (kv.1 = k)) = false := by
    rw [List.any_eq_false]
    intro kv hk
    simpa using h kv hk
  simp [putKW, this]
theorem get_app {s t : Sto} {n : Nd} {i : Nat} (e : s[i]? = some n) : (s ++ t)[i]? = some n := by
  rw [List.getElem?_append_left (List.getElem?_eq_some_iff.mp e).1]; exact e
section
variable {st : Sto} {d : Nat} {A : Acc} {own : List Nat} {b : Int} {P : W → Sto → Prop} {E : Xc → Sto → Prop}
theorem DkS.fewL {c k : Nat} {L : List (Int × Nat)} (D : DkS st d c k L A) : L.length < 64 := by
  have := nodup_few D.nk (u := A.U) fun x hx => by
    obtain ⟨⟨y, r⟩, m, rfl⟩ := List.mem_map.mp hx
    exact (D.row _ _ m).2.2
  rw [List.length_map] at this
  exact Nat.lt_of_le_of_lt this D.few
theorem write_ok {w : W} (D : Dk st d A own) (hb : b ∈ A.U) (hw : Cont w) (hl : (A.wt b).length < 1000) : wp (r_Disk_write [.ref d, .int b, w] st) (fun v s => v = .non ∧ ∃ own', Dk s d (A.write b w) own' ∧ Go own st own' s) NoE := by
  have mt := fun r => meth_k (m := "demand_block") (r := r) D
  obtain ⟨h0, h1⟩ : 0 ≤ b ∧ b < A.B := by
    obtain ⟨c, k, L, D, _⟩ := D
    exact D.uni b hb
  have dm := fun P E => demand_ok (P := P) (E := E) D h0 h1
  have lt := D.lt
  obtain ⟨c, k, L, D, rfl⟩ := D
  obtain ⟨n1, n2, n3, n4⟩ := D.ne
  have hL := D.fewL
  have hz : (kvL L).length < sizeLine := by simp only [kvL, List.length_map, sizeLine]; omega
  have ld := lt d (by simp)
  have lc := lt c (by simp)
  have lk := lt k (by simp)
  simp only [r_Disk_write, m_Disk_write]
  simp only [ws_seq, ws_if, ws_set, ws_sub, ws_ret, ws_retN, ws_expr, ws_sNx, ws_for, wp_op, wp_var0, wp_varS, wp_c, wp_mB, wp_toB, wp_tr, wp_trB_bl, wp_trB_non, wp_trB_int, wp_not, wp_and, wp_or, wp_if, wp_mBl, wp_nil, wp_cons, wp_tup, wp_lst, wp_lstS, wp_newL_t, wp_newL_f, wp_chain, wp_call, wp_fn, wp_sl, wp_noPart, wp_part, wp_comp, wp_yes, wp_iL, wp_iA, wp_srcL, wp_srcS, wp_srcAL, wp_srcAT, wp_iR1, wp_iR2, wp_rng1, wp_rng2, wp_iRv, wp_srcRL, wp_srcRT, wp_iEA, wp_srcEL, wp_srcET, wp_add, wp_sub, wp_mul, wp_mod, wp_div, wp_divW, wp_pow18, wp_pow17, wp_pow16, wp_pow30, wp_eqI, wp_neI, wp_cmpI, wp_isN, wp_isNotN, wp_lenL, wp_lenT, wp_abs, wp_int, wp_min2, wp_max2, wp_listL, wp_listT, wp_tupleL, wp_tupleT, wp_ixT0, wp_ixT1, wp_ixL0, wp_neg, wp_ok, wp_srcEL, wp_isB, wp_isNotB, wp_eqB, wp_neB, wp_all, wp_any, wp_slT, wp_slL, wp_rev, wp_revT, wp_revL, wp_disp, wp_pair, wp_pair0, wp_dict0, wipeW, List.foldl_cons, List.foldl_nil, wp_run, List.map, List.length, List.replicate, List.cons_append, List.nil_append, List.append_nil, List.set_cons_zero, List.set_cons_succ, if_true, if_false, Bool.not_true, Bool.not_false, Bool.true_eq_false, Bool.false_eq_true, Nat.reduceAdd, Nat.reduceSub, gName', wp_fldF, ws_fld, wp_lm, wp_din, wp_dget2, wp_dset2, wp_dpop, wp_newD, ws_raise, ws_nxE, ws_par, wp_make, wp_meth, wp_newL_f, wp_newL_t, wp_iT, Option.some.injEq, exists_eq_left', mt, dm]
  refine wp_no (content_ok hw st) ?_
  rintro _ st ⟨rfl, rfl⟩
  simp only [ws_seq, ws_if, ws_set, ws_sub, ws_ret, ws_retN, ws_expr, ws_sNx, ws_for, wp_op, wp_var0, wp_varS, wp_c, wp_mB, wp_toB, wp_tr, wp_trB_bl, wp_trB_non, wp_trB_int, wp_not, wp_and, wp_or, wp_if, wp_mBl, wp_nil, wp_cons, wp_tup, wp_lst, wp_lstS, wp_newL_t, wp_newL_f, wp_chain, wp_call, wp_fn, wp_sl, wp_noPart, wp_part, wp_comp, wp_yes, wp_iL, wp_iA, wp_srcL, wp_srcS, wp_srcAL, wp_srcAT, wp_iR1, wp_iR2, wp_rng1, wp_rng2, wp_iRv, wp_srcRL, wp_srcRT, wp_iEA, wp_srcEL, wp_srcET, wp_add, wp_sub, wp_mul, wp_mod, wp_div, wp_divW, wp_pow18, wp_pow17, wp_pow16, wp_pow30, wp_eqI, wp_neI, wp_cmpI, wp_isN, wp_isNotN, wp_lenL, wp_lenT, wp_abs, wp_int, wp_min2, wp_max2, wp_listL, wp_listT, wp_tupleL, wp_tupleT, wp_ixT0, wp_ixT1, wp_ixL0, wp_neg, wp_ok, wp_srcEL, wp_isB, wp_isNotB, wp_eqB, wp_neB, wp_all, wp_any, wp_slT, wp_slL, wp_rev, wp_revT, wp_revL, wp_disp, wp_pair, wp_pair0, wp_dict0, wipeW, List.foldl_cons, List.foldl_nil, wp_run, List.map, List.length, List.replicate, List.cons_append, List.nil_append, List.append_nil, List.set_cons_zero, List.set_cons_succ, if_true, if_false, Bool.not_true, Bool.not_false, Bool.true_eq_false, Bool.false_eq_true, Nat.reduceAdd, Nat.reduceSub, gName', wp_fldF, ws_fld, wp_lm, wp_din, wp_dget2, wp_dset2, wp_dpop, wp_newD, ws_raise, ws_nxE, ws_par, wp_make, wp_meth, wp_newL_f, wp_newL_t, wp_iT, Option.some.injEq, exists_eq_left']
  have g1 : (st ++ [Nd.lst []])[k]? = some (.dk (kvL L)) := get_app D.hk
  have dk1 : (dkOf st (.ref k)).isSome = true := by rw [dk_is D.hk]; rfl
  simp only [ws_seq, ws_if, ws_set, ws_sub, ws_ret, ws_retN, ws_expr, ws_sNx, ws_for, wp_op, wp_var0, wp_varS, wp_c, wp_mB, wp_toB, wp_tr, wp_trB_bl, wp_trB_non, wp_trB_int, wp_not, wp_and, wp_or, wp_if, wp_mBl, wp_nil, wp_cons, wp_tup, wp_lst, wp_lstS, wp_newL_t, wp_newL_f, wp_chain, wp_call, wp_fn, wp_sl, wp_noPart, wp_part, wp_comp, wp_yes, wp_iL, wp_iA, wp_srcL, wp_srcS, wp_srcAL, wp_srcAT, wp_iR1, wp_iR2, wp_rng1, wp_rng2, wp_iRv, wp_srcRL, wp_srcRT, wp_iEA, wp_srcEL, wp_srcET, wp_add, wp_sub, wp_mul, wp_mod, wp_div, wp_divW, wp_pow18, wp_pow17, wp_pow16, wp_pow30, wp_eqI, wp_neI, wp_cmpI, wp_isN, wp_isNotN, wp_lenL, wp_lenT, wp_abs, wp_int, wp_min2, wp_max2, wp_listL, wp_listT, wp_tupleL, wp_tupleT, wp_ixT0, wp_ixT1, wp_ixL0, wp_neg, wp_ok, wp_srcEL, wp_isB, wp_isNotB, wp_eqB, wp_neB, wp_all, wp_any, wp_slT, wp_slL, wp_rev, wp_revT, wp_revL, wp_disp, wp_pair, wp_pair0, wp_dict0, wipeW, List.foldl_cons, List.foldl_nil, wp_run, List.map, List.length, List.replicate, List.cons_append, List.nil_append, List.append_nil, List.set_cons_zero, List.set_cons_succ, if_true, if_false, Bool.not_true, Bool.not_false, Bool.true_eq_false, Bool.false_eq_true, Nat.reduceAdd, Nat.reduceSub, gName', wp_fldF, ws_fld, wp_lm, wp_din, wp_dget2, wp_dset2, wp_dpop, wp_newD, ws_raise, ws_nxE, ws_par, wp_make, wp_meth, wp_newL_f, wp_newL_t, wp_iT, Option.some.injEq, exists_eq_left', f_k D.hd, dk1, true_and]
  by_cases e : A.wt b = []
  · -- the first one that waits there
    have hn : b ∉ L.map (·.1) := fun m => by
      obtain ⟨⟨x, r⟩, m1, rfl⟩ := List.mem_map.mp m
      exact (D.row _ _ m1).2.1 e
    have hp : putKW (kvL L) (.inl b) (.ref st.length) = kvL (L ++ [(b, st.length)]) := by
      rw [putKW_new]
      · simp [kvL]
      · intro kv hk
        obtain ⟨p, hp, rfl⟩ := List.mem_map.mp hk
        intro z
        simp only [Sum.inl.injEq] at z
        exact hn (List.mem_map.mpr ⟨p, hp, z⟩)
    rw [wp_dsetR_new g1 keyi hz (lk_not hn), hp]
    have g2 : ((st ++ [Nd.lst []]).set k (.dk (kvL (L ++ [(b, st.length)]))))[st.length]? = some (.lst []) := by
      rw [get_setn (by omega)]; exact get_new
    refine ⟨by simp only [seqL, g2] <;> rfl, ?_⟩
    rw [wp_app g2 (by simp [sizeLine])]
    refine ⟨d :: c :: k :: (L ++ [(b, st.length)]).map (·.2), ⟨c, k, L ++ [(b, st.length)], ?_, rfl⟩, ?_⟩
    · have out : ∀ j, j < st.length → j ≠ k → (((st ++ [Nd.lst []]).set k (.dk (kvL (L ++ [(b, st.length)])))).set st.length (.lst ([] ++ [w])))[j]? = st[j]? := fun j hj hk => by
        rw [get_setn (by omega), get_setn hk.symm, List.getElem?_append_left hj]
      refine ⟨by rw [out d ld n2]; exact D.hd, by rw [out c lc n3]; exact D.hc, ?_, fun b' r m => ?_, fun b' m => ?_, ?_, ?_, D.len, D.uni, D.few⟩
      · rw [get_setn (by omega)]; exact get_setp g1
      · show _ = some (Nd.lst (if b' = b then A.wt b' ++ [w] else A.wt b')) ∧ (if b' = b then A.wt b' ++ [w] else A.wt b') ≠ [] ∧ b' ∈ A.U
        rcases List.mem_append.mp m with m | m
        · have nb : b' ≠ b := fun z => hn (List.mem_map.mpr ⟨_, m, z⟩)
          rw [if_neg nb, out r (lt r (by simp only [List.mem_cons]; exact .inr (.inr (.inr (List.mem_map.mpr ⟨_, m, rfl⟩))))) (n4 _ _ m).2.2]
          exact D.row _ _ m
        · simp only [List.mem_singleton, Prod.mk.injEq] at m
          obtain ⟨rfl, rfl⟩ := m
          rw [if_pos rfl, e, get_setp g2]
          exact ⟨rfl, by simp, hb⟩
      · show (if b' = b then A.wt b' ++ [w] else A.wt b') = []
        simp only [List.map_append, List.map_cons, List.map_nil, List.mem_append, List.mem_singleton, not_or] at m
        rw [if_neg m.2]
        exact D.non b' m.1
      · rw [List.map_append, List.nodup_append]
        exact ⟨D.nk, by simp, fun x hx y hy => by
          simp only [List.map_cons, List.map_nil, List.mem_singleton] at hy
          rw [hy]
          intro z
          exact hn (z ▸ hx)⟩
      · have : d :: c :: k :: (L ++ [(b, st.length)]).map (·.2) = (d :: c :: k :: L.map (·.2)) ++ [st.length] := by simp
        rw [this, List.nodup_append]
        exact ⟨D.nr, by simp, fun x hx y hy => by
          simp only [List.mem_singleton] at hy
          rw [hy]
          intro z
          exact Nat.lt_irrefl _ (z ▸ lt x hx)⟩
    · refine ⟨by simp, fun j n h z => ?_, fun j h => ?_⟩
      · have := lt_of_get z
        rw [get_setn (by omega), get_setn (fun q : k = j => h (by rw [← q]; simp)), List.getElem?_append_left this]
        exact z
      · simp only [List.map_append, List.map_cons, List.map_nil, List.mem_cons, List.mem_append, List.mem_singleton] at h ⊢
        rcases h with h | h | h | h | h | h
        · exact .inl (.inl h)
        · exact .inl (.inr (.inl h))
        · exact .inl (.inr (.inr (.inl h)))
        · exact .inl (.inr (.inr (.inr h)))
        · exact .inr (by omega)
        · cases h
  · obtain ⟨r, hr⟩ := D.has e
    obtain ⟨m1, m2, m3⟩ := n4 _ _ hr
    obtain ⟨h1', h2', h3'⟩ := D.row _ _ hr
    rw [wp_dsetR_old g1 keyi hz (lk_mem D.nk hr)]
    have g2 : (st ++ [Nd.lst []])[r]? = some (.lst (A.wt b)) := get_app h1'
    refine ⟨by simp only [seqL, g2] <;> rfl, ?_⟩
    rw [wp_app g2 (by simp only [sizeLine]; omega)]
    have out : ∀ j, j < st.length → j ≠ r → ((st ++ [Nd.lst []]).set r (.lst (A.wt b ++ [w])))[j]? = st[j]? := fun j hj hk => by
      rw [get_setn hk.symm, List.getElem?_append_left hj]
    refine ⟨d :: c :: k :: L.map (·.2), ⟨c, k, L, ?_, rfl⟩, ?_⟩
    · refine ⟨by rw [out d ld m1.symm]; exact D.hd, by rw [out c lc m2.symm]; exact D.hc, by rw [out k lk m3.symm]; exact D.hk, fun b' q m => ?_, fun b' m => ?_, D.nk, D.nr, D.len, D.uni, D.few⟩
      · show _ = some (Nd.lst (if b' = b then A.wt b' ++ [w] else A.wt b')) ∧ (if b' = b then A.wt b' ++ [w] else A.wt b') ≠ [] ∧ b' ∈ A.U
        by_cases z : b' = b
        · subst z
          have : q = r := by
            have l1 := lk_mem D.nk m
            rw [lk_mem D.nk hr] at l1
            simpa using l1.symm
          rw [if_pos rfl, this, get_setp g2]
          exact ⟨rfl, by simp, hb⟩
        · have : q ≠ r := by
            intro y
            subst y
            have nn := (List.nodup_cons.mp (List.nodup_cons.mp (List.nodup_cons.mp D.nr).2).2).2
            exact z (congrArg Prod.fst (snd_inj nn m hr rfl))
          rw [if_neg z, out q (lt_of_get (D.row _ _ m).1) this]
          exact D.row _ _ m
      · show (if b' = b then A.wt b' ++ [w] else A.wt b') = []
        rw [if_neg (fun z => m (List.mem_map.mpr ⟨_, hr, z.symm⟩))]
        exact D.non b' m
    · refine ⟨by simp, fun j n h z => ?_, fun j h => .inl h⟩
      have := lt_of_get z
      rw [out j this (fun q => h (by
        simp only [List.mem_cons]
        exact .inr (.inr (.inr (List.mem_map.mpr ⟨_, hr, q.symm⟩)))))]
      exact z
end
end Lw
namespace Lw
open PySem L2 Mi
/-- the blocks for which something waits -/
def Acc.keys (A : Acc) : List Int := setZ (A.U.filter fun b => !(A.wt b).isEmpty)
theorem mem_keys {A : Acc} {b : Int} : b ∈ A.keys ↔ b ∈ A.U ∧ A.wt b ≠ [] := by
  unfold Acc.keys
  rw [setZ_mem, List.mem_filter]
  simp
theorem intsOf_map : ∀ (ns : List Int), intsOf (ns.map W.int) = some ns
  | [] => rfl
  | n :: ns => by simp only [List.map_cons, intsOf, intsOf_map ns] <;> rfl
section
variable {st : Sto} {d : Nat} {A : Acc} {own : List Nat} {b : Int} {P : W → Sto → Prop} {E : Xc → Sto → Prop}
theorem keys_of {ks : List Int} (nd : ks.Nodup) (h : ∀ b, b ∈ ks ↔ b ∈ A.U ∧ A.wt b ≠ []) : sortZ ks = A.keys := by
  have p := List.mergeSort_perm ks (fun a b => decide (a ≤ b))
  have s : (sortZ ks).Pairwise (· ≤ ·) := by
    have := List.pairwise_mergeSort (le := fun a b : Int => decide (a ≤ b)) (by intro a b c; simp; omega) (by intro a b; simp; omega) ks
    exact this.imp fun h => by simpa using h
  have n : (sortZ ks).Nodup := p.nodup_iff.mpr nd
  exact setZ_of ((s.and n).imp fun ⟨a, b⟩ => by omega) fun b => by
    rw [show (b ∈ sortZ ks ↔ b ∈ ks) from p.mem_iff, h, List.mem_filter]
    simp
theorem cut_ok (D : Dk st d A own) : wp (r_Disk_cut [.ref d] st) (fun v s => v = .non ∧ ∃ own', Dk s d A.cut own' ∧ Go own st own' s) NoE := by
  have lt := D.lt
  obtain ⟨c, k, L, D, rfl⟩ := D
  obtain ⟨n1, n2, n3, n4⟩ := D.ne
  have ld := lt d (by simp)
  have lc := lt c (by simp)
  have e0 : (st ++ [Nd.dk []])[d]? = some (DiskN c k A.pw A.n) := get_app D.hd
  have e1 := setF_of (f := "cached") (v := .ref st.length) (cs := [0]) e0 rfl (by simp [fsD])
  rw [show putW "cached" (.ref st.length) (fsD c k A.pw A.n) = fsD c st.length A.pw A.n from rfl] at e1
  have e2 : ((st ++ [Nd.dk []]).set d (.ins 0 (fsD c st.length A.pw A.n)))[d]? = some (.ins 0 (fsD c st.length A.pw A.n)) := get_setp e0
  have e3 := setF_of (f := "left") (v := .non) (cs := [0]) e2 rfl (by simp [fsD])
  simp only [r_Disk_cut, m_Disk_cut]
  simp only [ws_seq, ws_if, ws_set, ws_sub, ws_ret, ws_retN, ws_expr, ws_sNx, ws_for, wp_op, wp_var0, wp_varS, wp_c, wp_mB, wp_toB, wp_tr, wp_trB_bl, wp_trB_non, wp_trB_int, wp_not, wp_and, wp_or, wp_if, wp_mBl, wp_nil, wp_cons, wp_tup, wp_lst, wp_lstS, wp_newL_t, wp_newL_f, wp_chain, wp_call, wp_fn, wp_sl, wp_noPart, wp_part, wp_comp, wp_yes, wp_iL, wp_iA, wp_srcL, wp_srcS, wp_srcAL, wp_srcAT, wp_iR1, wp_iR2, wp_rng1, wp_rng2, wp_iRv, wp_srcRL, wp_srcRT, wp_iEA, wp_srcEL, wp_srcET, wp_add, wp_sub, wp_mul, wp_mod, wp_div, wp_divW, wp_pow18, wp_pow17, wp_pow16, wp_pow30, wp_eqI, wp_neI, wp_cmpI, wp_isN, wp_isNotN, wp_lenL, wp_lenT, wp_abs, wp_int, wp_min2, wp_max2, wp_listL, wp_listT, wp_tupleL, wp_tupleT, wp_ixT0, wp_ixT1, wp_ixL0, wp_neg, wp_ok, wp_srcEL, wp_isB, wp_isNotB, wp_eqB, wp_neB, wp_all, wp_any, wp_slT, wp_slL, wp_rev, wp_revT, wp_revL, wp_disp, wp_pair, wp_pair0, wp_dict0, wipeW, List.foldl_cons, List.foldl_nil, wp_run, List.map, List.length, List.replicate, List.cons_append, List.nil_append, List.append_nil, List.set_cons_zero, List.set_cons_succ, if_true, if_false, Bool.not_true, Bool.not_false, Bool.true_eq_false, Bool.false_eq_true, Nat.reduceAdd, Nat.reduceSub, gName', wp_fldF, ws_fld, wp_lm, wp_din, wp_dget2, wp_dset2, wp_dpop, wp_newD, ws_raise, ws_nxE, ws_par, wp_make, wp_meth, wp_newL_f, wp_newL_t, wp_iT, Option.some.injEq, exists_eq_left', wp_setR e1, wp_setR e3, List.set_set]
  have e4 : Nd.ins 0 (putW "left" .non (fsD c st.length A.pw A.n)) = DiskN c st.length none A.n := rfl
  rw [e4]
  refine ⟨by trivial, [d, c, st.length], ⟨c, st.length, [], ⟨get_setp e0, ?_, ?_, fun b r m => absurd m (by simp), fun b m => rfl, List.nodup_nil, ?_, D.len, D.uni, D.few⟩, rfl⟩, ?_⟩
  · rw [get_setn n1]; exact get_app D.hc
  · rw [get_setn (by omega)]; exact get_new
  · simp only [List.map_nil, List.nodup_cons, List.mem_cons, List.not_mem_nil, or_false, not_or, not_false_eq_true, List.nodup_nil, and_true]
    exact ⟨⟨n1, by omega⟩, by omega⟩
  · refine ⟨by simp, fun j n h z => ?_, fun j h => ?_⟩
    · rw [get_setn (fun q : d = j => h (by rw [← q]; simp))]
      exact get_app z
    · simp only [List.mem_cons, List.not_mem_nil, or_false] at h ⊢
      rcases h with h | h | h
      · exact .inl (.inl h)
      · exact .inl (.inr (.inl h))
      · exact .inr (by omega)
/-- a lot of blocks -/
theorem lot_ok {B : Nat} {lot : List Int} (hs : lot.Pairwise (· < ·)) (hb : ∀ b ∈ lot, 0 ≤ b ∧ b < B) : wp (r_is_lot_below [.int B, .tup (lot.map W.int)] st) (fun v s => v = .bl true ∧ s = st) NoE := by
  simp only [r_is_lot_below, m_is_lot_below]
  simp only [ws_seq, ws_if, ws_set, ws_sub, ws_ret, ws_retN, ws_expr, ws_sNx, ws_for, wp_op, wp_var0, wp_varS, wp_c, wp_mB, wp_toB, wp_tr, wp_trB_bl, wp_trB_non, wp_trB_int, wp_not, wp_and, wp_or, wp_if, wp_mBl, wp_nil, wp_cons, wp_tup, wp_lst, wp_lstS, wp_newL_t, wp_newL_f, wp_chain, wp_call, wp_fn, wp_sl, wp_noPart, wp_part, wp_comp, wp_yes, wp_iL, wp_iA, wp_srcL, wp_srcS, wp_srcAL, wp_srcAT, wp_iR1, wp_iR2, wp_rng1, wp_rng2, wp_iRv, wp_srcRL, wp_srcRT, wp_iEA, wp_srcEL, wp_srcET, wp_add, wp_sub, wp_mul, wp_mod, wp_div, wp_divW, wp_pow18, wp_pow17, wp_pow16, wp_pow30, wp_eqI, wp_neI, wp_cmpI, wp_isN, wp_isNotN, wp_lenL, wp_lenT, wp_abs, wp_int, wp_min2, wp_max2, wp_listL, wp_listT, wp_tupleL, wp_tupleT, wp_ixT0, wp_ixT1, wp_ixL0, wp_neg, wp_ok, wp_srcEL, wp_isB, wp_isNotB, wp_eqB, wp_neB, wp_all, wp_any, wp_slT, wp_slL, wp_rev, wp_revT, wp_revL, wp_disp, wp_pair, wp_pair0, wp_dict0, wipeW, List.foldl_cons, List.foldl_nil, wp_run, List.map, List.length, List.replicate, List.cons_append, List.nil_append, List.append_nil, List.set_cons_zero, List.set_cons_succ, if_true, if_false, Bool.not_true, Bool.not_false, Bool.true_eq_false, Bool.false_eq_true, Nat.reduceAdd, Nat.reduceSub, gName', wp_fldF, ws_fld, wp_lm, wp_din, wp_dget2, wp_dset2, wp_dpop, wp_newD, ws_raise, ws_nxE, ws_par, wp_make, wp_meth, wp_newL_f, wp_newL_t, wp_iT, Option.some.injEq, exists_eq_left', isi_tup]
  refine forS_fix (fun i e s => s = st ∧ ∃ l o, e = [some (.int B), some (.tup (lot.map W.int)), some (.int l), o] ∧ ∀ b ∈ lot.drop i, l ≤ b) ⟨rfl, 0, none, rfl, fun b hb' => (hb b (by simpa using hb')).1⟩ (fun i w e env s z => ?_) (fun env s z => ?_)
  · obtain ⟨rfl, l, o, rfl, h⟩ := z
    rw [List.getElem?_map] at e
    cases e2 : lot[i]? with
    | none => rw [e2] at e; simp at e
    | some b =>
      rw [e2] at e
      simp only [Option.map_some, Option.some.injEq] at e
      subst e
      obtain ⟨hi, hv⟩ := List.getElem?_eq_some_iff.mp e2
      have dr : lot.drop i = b :: lot.drop (i + 1) := by rw [List.drop_eq_getElem_cons hi, hv]
      have h1 : l ≤ b := h b (by rw [dr]; simp)
      have h2 := (hb b (List.mem_of_getElem? e2)).2
      refine ⟨_, _, rfl, ?_⟩
      simp only [ws_seq, ws_if, ws_set, ws_sub, ws_ret, ws_retN, ws_expr, ws_sNx, ws_for, wp_op, wp_var0, wp_varS, wp_c, wp_mB, wp_toB, wp_tr, wp_trB_bl, wp_trB_non, wp_trB_int, wp_not, wp_and, wp_or, wp_if, wp_mBl, wp_nil, wp_cons, wp_tup, wp_lst, wp_lstS, wp_newL_t, wp_newL_f, wp_chain, wp_call, wp_fn, wp_sl, wp_noPart, wp_part, wp_comp, wp_yes, wp_iL, wp_iA, wp_srcL, wp_srcS, wp_srcAL, wp_srcAT, wp_iR1, wp_iR2, wp_rng1, wp_rng2, wp_iRv, wp_srcRL, wp_srcRT, wp_iEA, wp_srcEL, wp_srcET, wp_add, wp_sub, wp_mul, wp_mod, wp_div, wp_divW, wp_pow18, wp_pow17, wp_pow16, wp_pow30, wp_eqI, wp_neI, wp_cmpI, wp_isN, wp_isNotN, wp_lenL, wp_lenT, wp_abs, wp_int, wp_min2, wp_max2, wp_listL, wp_listT, wp_tupleL, wp_tupleT, wp_ixT0, wp_ixT1, wp_ixL0, wp_neg, wp_ok, wp_srcEL, wp_isB, wp_isNotB, wp_eqB, wp_neB, wp_all, wp_any, wp_slT, wp_slL, wp_rev, wp_revT, wp_revL, wp_disp, wp_pair, wp_pair0, wp_dict0, wipeW, List.foldl_cons, List.foldl_nil, wp_run, List.map, List.length, List.replicate, List.cons_append, List.nil_append, List.append_nil, List.set_cons_zero, List.set_cons_succ, if_true, if_false, Bool.not_true, Bool.not_false, Bool.true_eq_false, Bool.false_eq_true, Nat.reduceAdd, Nat.reduceSub, gName', wp_fldF, ws_fld, wp_lm, wp_din, wp_dget2, wp_dset2, wp_dpop, wp_newD, ws_raise, ws_nxE, ws_par, wp_make, wp_meth, wp_newL_f, wp_newL_t, wp_iT, Option.some.injEq, exists_eq_left', within_ok, decide_eq_true h1, decide_eq_true (show b ≤ (B : Int) - 1 by omega), Bool.and_self]
      refine ⟨by trivial, b + 1, some (.int b), by trivial, fun y hy => ?_⟩
      have := hs.drop (i := i)
      rw [dr, List.pairwise_cons] at this
      have := this.1 y hy
      omega
  · obtain ⟨rfl, l, o, rfl, h⟩ := z
    simp only [ws_seq, ws_if, ws_set, ws_sub, ws_ret, ws_retN, ws_expr, ws_sNx, ws_for, wp_op, wp_var0, wp_varS, wp_c, wp_mB, wp_toB, wp_tr, wp_trB_bl, wp_trB_non, wp_trB_int, wp_not, wp_and, wp_or, wp_if, wp_mBl, wp_nil, wp_cons, wp_tup, wp_lst, wp_lstS, wp_newL_t, wp_newL_f, wp_chain, wp_call, wp_fn, wp_sl, wp_noPart, wp_part, wp_comp, wp_yes, wp_iL, wp_iA, wp_srcL, wp_srcS, wp_srcAL, wp_srcAT, wp_iR1, wp_iR2, wp_rng1, wp_rng2, wp_iRv, wp_srcRL, wp_srcRT, wp_iEA, wp_srcEL, wp_srcET, wp_add, wp_sub, wp_mul, wp_mod, wp_div, wp_divW, wp_pow18, wp_pow17, wp_pow16, wp_pow30, wp_eqI, wp_neI, wp_cmpI, wp_isN, wp_isNotN, wp_lenL, wp_lenT, wp_abs, wp_int, wp_min2, wp_max2, wp_listL, wp_listT, wp_tupleL, wp_tupleT, wp_ixT0, wp_ixT1, wp_ixL0, wp_neg, wp_ok, wp_srcEL, wp_isB, wp_isNotB, wp_eqB, wp_neB, wp_all, wp_any, wp_slT, wp_slL, wp_rev, wp_revT, wp_revL, wp_disp, wp_pair, wp_pair0, wp_dict0, wipeW, List.foldl_cons, List.foldl_nil, wp_run, List.map, List.length, List.replicate, List.cons_append, List.nil_append, List.append_nil, List.set_cons_zero, List.set_cons_succ, if_true, if_false, Bool.not_true, Bool.not_false, Bool.true_eq_false, Bool.false_eq_true, Nat.reduceAdd, Nat.reduceSub, gName', wp_fldF, ws_fld, wp_lm, wp_din, wp_dget2, wp_dset2, wp_dpop, wp_newD, ws_raise, ws_nxE, ws_par, wp_make, wp_meth, wp_newL_f, wp_newL_t, wp_iT, Option.some.injEq, exists_eq_left']
    exact ⟨by trivial, by trivial⟩
theorem step_len {A : Acc} {b x : Int} : ((A.step b).wt x).length ≤ (A.wt x).length := by
  show (if x = b then (A.wt x).tail else A.wt x).length ≤ _
  split
  · simp
  · exact Nat.le_refl _
theorem step_dec {A : Acc} {b : Int} (h : A.wt b ≠ []) : ((A.step b).wt b).length < (A.wt b).length := by
  show (if b = b then (A.wt b).tail else A.wt b).length < _
  rw [if_pos rfl, List.length_tail]
  have := List.length_pos_iff.mpr h
  omega
theorem force_cons {b : Int} {bs : List Int} {A A1 : Acc} {t : Bool} (h : A.emp b = (A1, t)) : A.force (b :: bs) = if t = true then A1.force bs else (A1, false) := by
  simp only [Acc.force, h]
  cases t <;> rfl
/-- all that waits for some blocks reaches the disk, or the power fails amid it -/
theorem force_ok {lot : List Int} (D : Dk st d A own) (hs : lot.Pairwise (· < ·)) (hb : ∀ b ∈ lot, 0 ≤ b ∧ b < A.B) (hl : ∀ b, (A.wt b).length < 1000) : wp (r_Disk_force [.ref d, .tup (lot.map W.int)] st)
    (fun v s => v = .non ∧ (A.force lot).2 = true ∧ ∃ own', Dk s d (A.force lot).1 own' ∧ Go own st own' s) (fun x s => x = .plain 1 ∧ (A.force lot).2 = false ∧ ∃ own', Dk s d (A.force lot).1 own' ∧ Go own st own' s) := by
  simp only [r_Disk_force, m_Disk_force]
  simp only [ws_seq, ws_if, ws_set, ws_sub, ws_ret, ws_retN, ws_expr, ws_sNx, ws_for, wp_op, wp_var0, wp_varS, wp_c, wp_mB, wp_toB, wp_tr, wp_trB_bl, wp_trB_non, wp_trB_int, wp_not, wp_and, wp_or, wp_if, wp_mBl, wp_nil, wp_cons, wp_tup, wp_lst, wp_lstS, wp_newL_t, wp_newL_f, wp_chain, wp_call, wp_fn, wp_sl, wp_noPart, wp_part, wp_comp, wp_yes, wp_iL, wp_iA, wp_srcL, wp_srcS, wp_srcAL, wp_srcAT, wp_iR1, wp_iR2, wp_rng1, wp_rng2, wp_iRv, wp_srcRL, wp_srcRT, wp_iEA, wp_srcEL, wp_srcET, wp_add, wp_sub, wp_mul, wp_mod, wp_div, wp_divW, wp_pow18, wp_pow17, wp_pow16, wp_pow30, wp_eqI, wp_neI, wp_cmpI, wp_isN, wp_isNotN, wp_lenL, wp_lenT, wp_abs, wp_int, wp_min2, wp_max2, wp_listL, wp_listT, wp_tupleL, wp_tupleT, wp_ixT0, wp_ixT1, wp_ixL0, wp_neg, wp_ok, wp_srcEL, wp_isB, wp_isNotB, wp_eqB, wp_neB, wp_all, wp_any, wp_slT, wp_slL, wp_rev, wp_revT, wp_revL, wp_disp, wp_pair, wp_pair0, wp_dict0, wipeW, List.foldl_cons, List.foldl_nil, wp_run, List.map, List.length, List.replicate, List.cons_append, List.nil_append, List.append_nil, List.set_cons_zero, List.set_cons_succ, if_true, if_false, Bool.not_true, Bool.not_false, Bool.true_eq_false, Bool.false_eq_true, Nat.reduceAdd, Nat.reduceSub, gName', wp_fldF, ws_fld, wp_lm, wp_din, wp_dget2, wp_dset2, wp_dpop, wp_newD, ws_raise, ws_nxE, ws_par, wp_make, wp_meth, wp_newL_f, wp_newL_t, wp_iT, Option.some.injEq, exists_eq_left', meth_k (m := "blocks") D, blocks_ok D]
  refine wp_no (lot_ok hs hb) ?_
  rintro _ st' ⟨rfl, rfl⟩
  simp only [ws_seq, ws_if, ws_set, ws_sub, ws_ret, ws_retN, ws_expr, ws_sNx, ws_for, wp_op, wp_var0, wp_varS, wp_c, wp_mB, wp_toB, wp_tr, wp_trB_bl, wp_trB_non, wp_trB_int, wp_not, wp_and, wp_or, wp_if, wp_mBl, wp_nil, wp_cons, wp_tup, wp_lst, wp_lstS, wp_newL_t, wp_newL_f, wp_chain, wp_call, wp_fn, wp_sl, wp_noPart, wp_part, wp_comp, wp_yes, wp_iL, wp_iA, wp_srcL, wp_srcS, wp_srcAL, wp_srcAT, wp_iR1, wp_iR2, wp_rng1, wp_rng2, wp_iRv, wp_srcRL, wp_srcRT, wp_iEA, wp_srcEL, wp_srcET, wp_add, wp_sub, wp_mul, wp_mod, wp_div, wp_divW, wp_pow18, wp_pow17, wp_pow16, wp_pow30, wp_eqI, wp_neI, wp_cmpI, wp_isN, wp_isNotN, wp_lenL, wp_lenT, wp_abs, wp_int, wp_min2, wp_max2, wp_listL, wp_listT, wp_tupleL, wp_tupleT, wp_ixT0, wp_ixT1, wp_ixL0, wp_neg, wp_ok, wp_srcEL, wp_isB, wp_isNotB, wp_eqB, wp_neB, wp_all, wp_any, wp_slT, wp_slL, wp_rev, wp_revT, wp_revL, wp_disp, wp_pair, wp_pair0, wp_dict0, wipeW, List.foldl_cons, List.foldl_nil, wp_run, List.map, List.length, List.replicate, List.cons_append, List.nil_append, List.append_nil, List.set_cons_zero, List.set_cons_succ, if_true, if_false, Bool.not_true, Bool.not_false, Bool.true_eq_false, Bool.false_eq_true, Nat.reduceAdd, Nat.reduceSub, gName', wp_fldF, ws_fld, wp_lm, wp_din, wp_dget2, wp_dset2, wp_dpop, wp_newD, ws_raise, ws_nxE, ws_par, wp_make, wp_meth, wp_newL_f, wp_newL_t, wp_iT, Option.some.injEq, exists_eq_left']
  refine forS_fix (fun i e s => (∃ o, e = [some (.ref d), some (.tup (lot.map W.int)), o]) ∧ ∃ A1 own1, Dk s d A1 own1 ∧ Go own st' own1 s ∧ (∀ b, (A1.wt b).length < 1000) ∧ A.force lot = A1.force (lot.drop i)) ⟨⟨none, rfl⟩, A, own, D, Go.refl, hl, by rw [List.drop_zero]⟩ (fun i w e env s z => ?_) (fun env s z => ?_)
  · obtain ⟨⟨o, rfl⟩, A1, own1, D1, g1, hl1, q1⟩ := z
    rw [List.getElem?_map] at e
    cases e2 : lot[i]? with
    | none => rw [e2] at e; simp at e
    | some b =>
      rw [e2] at e
      simp only [Option.map_some, Option.some.injEq] at e
      subst e
      obtain ⟨hi, hv⟩ := List.getElem?_eq_some_iff.mp e2
      have dr : lot.drop i = b :: lot.drop (i + 1) := by rw [List.drop_eq_getElem_cons hi, hv]
      rw [dr] at q1
      refine ⟨_, _, rfl, ?_⟩
      refine ws_while (fun k e s => e = [some (.ref d), some (.tup (lot.map W.int)), some (.int b)] ∧ ∃ A2 own2, Dk s d A2 own2 ∧ Go own st' own2 s ∧ (∀ b, (A2.wt b).length < 1000) ∧ (A2.wt b).length = k ∧ A1.emp b = A2.emp b) (k := (A1.wt b).length) ⟨rfl, A1, own1, D1, g1, hl1, rfl, rfl⟩ (by have := hl1 b; omega) (fun k e s z => ?_)
      obtain ⟨rfl, A2, own2, D2, g2, hl2, rfl, q2⟩ := z
      have so := fun p => stop_ok (b := b) D2 p
      have go := fun hb p => step_ok (b := b) D2 hb p
      have mt := fun r => meth_k (m := "let_reach") (r := r) D2
      have hD := D2
      obtain ⟨c, k, L, D2, rfl⟩ := D2
      simp only [ws_seq, ws_if, ws_set, ws_sub, ws_ret, ws_retN, ws_expr, ws_sNx, ws_for, wp_op, wp_var0, wp_varS, wp_c, wp_mB, wp_toB, wp_tr, wp_trB_bl, wp_trB_non, wp_trB_int, wp_not, wp_and, wp_or, wp_if, wp_mBl, wp_nil, wp_cons, wp_tup, wp_lst, wp_lstS, wp_newL_t, wp_newL_f, wp_chain, wp_call, wp_fn, wp_sl, wp_noPart, wp_part, wp_comp, wp_yes, wp_iL, wp_iA, wp_srcL, wp_srcS, wp_srcAL, wp_srcAT, wp_iR1, wp_iR2, wp_rng1, wp_rng2, wp_iRv, wp_srcRL, wp_srcRT, wp_iEA, wp_srcEL, wp_srcET, wp_add, wp_sub, wp_mul, wp_mod, wp_div, wp_divW, wp_pow18, wp_pow17, wp_pow16, wp_pow30, wp_eqI, wp_neI, wp_cmpI, wp_isN, wp_isNotN, wp_lenL, wp_lenT, wp_abs, wp_int, wp_min2, wp_max2, wp_listL, wp_listT, wp_tupleL, wp_tupleT, wp_ixT0, wp_ixT1, wp_ixL0, wp_neg, wp_ok, wp_srcEL, wp_isB, wp_isNotB, wp_eqB, wp_neB, wp_all, wp_any, wp_slT, wp_slL, wp_rev, wp_revT, wp_revL, wp_disp, wp_pair, wp_pair0, wp_dict0, wipeW, List.foldl_cons, List.foldl_nil, wp_run, List.map, List.length, List.replicate, List.cons_append, List.nil_append, List.append_nil, List.set_cons_zero, List.set_cons_succ, if_true, if_false, Bool.not_true, Bool.not_false, Bool.true_eq_false, Bool.false_eq_true, Nat.reduceAdd, Nat.reduceSub, gName', wp_fldF, ws_fld, wp_lm, wp_din, wp_dget2, wp_dset2, wp_dpop, wp_newD, ws_raise, ws_nxE, ws_par, wp_make, wp_meth, wp_newL_f, wp_newL_t, wp_iT, Option.some.injEq, exists_eq_left', f_k D2.hd, wp_dinR D2.hk keyi, D2.isk]
      by_cases h : A2.wt b = []
      · rw [h]
        simp only [ws_seq, ws_if, ws_set, ws_sub, ws_ret, ws_retN, ws_expr, ws_sNx, ws_for, wp_op, wp_var0, wp_varS, wp_c, wp_mB, wp_toB, wp_tr, wp_trB_bl, wp_trB_non, wp_trB_int, wp_not, wp_and, wp_or, wp_if, wp_mBl, wp_nil, wp_cons, wp_tup, wp_lst, wp_lstS, wp_newL_t, wp_newL_f, wp_chain, wp_call, wp_fn, wp_sl, wp_noPart, wp_part, wp_comp, wp_yes, wp_iL, wp_iA, wp_srcL, wp_srcS, wp_srcAL, wp_srcAT, wp_iR1, wp_iR2, wp_rng1, wp_rng2, wp_iRv, wp_srcRL, wp_srcRT, wp_iEA, wp_srcEL, wp_srcET, wp_add, wp_sub, wp_mul, wp_mod, wp_div, wp_divW, wp_pow18, wp_pow17, wp_pow16, wp_pow30, wp_eqI, wp_neI, wp_cmpI, wp_isN, wp_isNotN, wp_lenL, wp_lenT, wp_abs, wp_int, wp_min2, wp_max2, wp_listL, wp_listT, wp_tupleL, wp_tupleT, wp_ixT0, wp_ixT1, wp_ixL0, wp_neg, wp_ok, wp_srcEL, wp_isB, wp_isNotB, wp_eqB, wp_neB, wp_all, wp_any, wp_slT, wp_slL, wp_rev, wp_revT, wp_revL, wp_disp, wp_pair, wp_pair0, wp_dict0, wipeW, List.foldl_cons, List.foldl_nil, wp_run, List.map, List.length, List.replicate, List.cons_append, List.nil_append, List.append_nil, List.set_cons_zero, List.set_cons_succ, if_true, if_false, Bool.not_true, Bool.not_false, Bool.true_eq_false, Bool.false_eq_true, Nat.reduceAdd, Nat.reduceSub, gName', wp_fldF, ws_fld, wp_lm, wp_din, wp_dget2, wp_dset2, wp_dpop, wp_newD, ws_raise, ws_nxE, ws_par, wp_make, wp_meth, wp_newL_f, wp_newL_t, wp_iT, Option.some.injEq, exists_eq_left', List.isEmpty_nil]
        refine ⟨⟨some (.int b), by trivial⟩, A2, _, hD, g2, hl2, ?_⟩
        rw [q1, force_cons (q2.trans (emp_nil h)), if_pos rfl]
      · rw [isNil_false h]
        simp only [ws_seq, ws_if, ws_set, ws_sub, ws_ret, ws_retN, ws_expr, ws_sNx, ws_for, wp_op, wp_var0, wp_varS, wp_c, wp_mB, wp_toB, wp_tr, wp_trB_bl, wp_trB_non, wp_trB_int, wp_not, wp_and, wp_or, wp_if, wp_mBl, wp_nil, wp_cons, wp_tup, wp_lst, wp_lstS, wp_newL_t, wp_newL_f, wp_chain, wp_call, wp_fn, wp_sl, wp_noPart, wp_part, wp_comp, wp_yes, wp_iL, wp_iA, wp_srcL, wp_srcS, wp_srcAL, wp_srcAT, wp_iR1, wp_iR2, wp_rng1, wp_rng2, wp_iRv, wp_srcRL, wp_srcRT, wp_iEA, wp_srcEL, wp_srcET, wp_add, wp_sub, wp_mul, wp_mod, wp_div, wp_divW, wp_pow18, wp_pow17, wp_pow16, wp_pow30, wp_eqI, wp_neI, wp_cmpI, wp_isN, wp_isNotN, wp_lenL, wp_lenT, wp_abs, wp_int, wp_min2, wp_max2, wp_listL, wp_listT, wp_tupleL, wp_tupleT, wp_ixT0, wp_ixT1, wp_ixL0, wp_neg, wp_ok, wp_srcEL, wp_isB, wp_isNotB, wp_eqB, wp_neB, wp_all, wp_any, wp_slT, wp_slL, wp_rev, wp_revT, wp_revL, wp_disp, wp_pair, wp_pair0, wp_dict0, wipeW, List.foldl_cons, List.foldl_nil, wp_run, List.map, List.length, List.replicate, List.cons_append, List.nil_append, List.append_nil, List.set_cons_zero, List.set_cons_succ, if_true, if_false, Bool.not_true, Bool.not_false, Bool.true_eq_false, Bool.false_eq_true, Nat.reduceAdd, Nat.reduceSub, gName', wp_fldF, ws_fld, wp_lm, wp_din, wp_dget2, wp_dset2, wp_dpop, wp_newD, ws_raise, ws_nxE, ws_par, wp_make, wp_meth, wp_newL_f, wp_newL_t, wp_iT, Option.some.injEq, exists_eq_left', mt]
        by_cases p : A2.pw = some 0
        · refine wp_mono (so p) (fun _ _ z => z.elim) fun x s z => ?_
          obtain ⟨rfl, rfl⟩ := z
          have := force_cons (bs := lot.drop (i + 1)) (q2.trans (emp_stop h p))
          rw [if_neg (by decide)] at this
          rw [q1, this]
          exact ⟨rfl, rfl, _, hD, g2⟩
        · refine wp_no (go h p) ?_
          rintro v s ⟨rfl, own3, D3, g3⟩
          exact ⟨_, step_dec h, by trivial, A2.step b, own3, D3, g2.trans g3, fun x => Nat.lt_of_le_of_lt step_len (hl2 x), rfl, q2.trans (emp_step h p)⟩
  · obtain ⟨⟨o, rfl⟩, A1, own1, D1, g1, hl1, q1⟩ := z
    rw [List.length_map, List.drop_length] at q1
    rw [q1]
    exact ⟨by trivial, rfl, own1, D1, g1⟩
end
end Lw
namespace Lw
open PySem L2 Mi
section
variable {st : Sto} {d : Nat} {A : Acc} {own : List Nat} {b : Int} {P : W → Sto → Prop} {E : Xc → Sto → Prop}
theorem wp_sortedD {k : Nat} {kvs : List (Key × W)} {ks : List Int} (e : st[k]? = some (.dk kvs)) (h : kvs.map (·.1) = ks.map Sum.inl) (hl : ks.length < 64) : wp (fSorted true [.ref k] st) P E ↔ P (.lst ((sortZ ks).map W.int)) st := by
  have h1 : (kvs.map fun p => match p.1 with | .inl i => W.int i | .inr x => W.str x) = ks.map W.int := by
    have : (kvs.map fun p => match p.1 with | .inl i => W.int i | .inr x => W.str x) = (kvs.map (·.1)).map fun (q : Key) => match q with | .inl i => W.int i | .inr x => W.str x := by rw [List.map_map]; rfl
    rw [this, h, List.map_map]; rfl
  have h2 : intsOf (kvs.map fun p => match p.1 with | .inl i => W.int i | .inr x => W.str x) = some ks := by rw [h1, intsOf_map]
  have : fSorted true [.ref k] st = .ok (.lst ((sortZ ks).map W.int)) st := by
    simp only [fSorted, seqL, e, dkOf, newL]
    generalize hz : intsOf _ = z
    have e3 : z = some ks := hz.symm.trans h2
    subst e3
    simp only [hl, if_true]
  rw [this]; exact Iff.rfl
theorem keys_lt : A.keys.Pairwise (· < ·) := setZ_lt
theorem DkS.keys {c k : Nat} {L : List (Int × Nat)} (D : DkS st d c k L A) : sortZ (L.map (·.1)) = A.keys := keys_of D.nk fun b => ⟨fun m => by
  obtain ⟨⟨x, r⟩, m1, rfl⟩ := List.mem_map.mp m
  exact ⟨(D.row _ _ m1).2.2, (D.row _ _ m1).2.1⟩, fun ⟨_, m⟩ => by
  obtain ⟨r, hr⟩ := D.has m
  exact List.mem_map.mpr ⟨_, hr, rfl⟩⟩
theorem DkS.kmap {c k : Nat} {L : List (Int × Nat)} (D : DkS st d c k L A) : (kvL L).map (·.1) = (L.map (·.1)).map Sum.inl := by
  simp [kvL]
theorem calm_ok (D : Dk st d A own) (hl : ∀ b, (A.wt b).length < 1000) : wp (r_Disk_calm [.ref d] st)
    (fun v s => v = .non ∧ (A.force A.keys).2 = true ∧ ∃ own', Dk s d (A.force A.keys).1 own' ∧ Go own st own' s) (fun x s => x = .plain 1 ∧ (A.force A.keys).2 = false ∧ ∃ own', Dk s d (A.force A.keys).1 own' ∧ Go own st own' s) := by
  have mt := fun r => meth_k (m := "force") (r := r) D
  have hu : ∀ b ∈ A.keys, 0 ≤ b ∧ b < A.B := fun b hb => by
    obtain ⟨c, k, L, D, _⟩ := D
    exact D.uni b (mem_keys.mp hb).1
  have fo := force_ok D keys_lt hu hl
  obtain ⟨c, k, L, D, rfl⟩ := D
  have hs := D.keys
  simp only [r_Disk_calm, m_Disk_calm]
  simp only [ws_seq, ws_if, ws_set, ws_sub, ws_ret, ws_retN, ws_expr, ws_sNx, ws_for, wp_op, wp_var0, wp_varS, wp_c, wp_mB, wp_toB, wp_tr, wp_trB_bl, wp_trB_non, wp_trB_int, wp_not, wp_and, wp_or, wp_if, wp_mBl, wp_nil, wp_cons, wp_tup, wp_lst, wp_lstS, wp_newL_t, wp_newL_f, wp_chain, wp_call, wp_fn, wp_sl, wp_noPart, wp_part, wp_comp, wp_yes, wp_iL, wp_iA, wp_srcL, wp_srcS, wp_srcAL, wp_srcAT, wp_iR1, wp_iR2, wp_rng1, wp_rng2, wp_iRv, wp_srcRL, wp_srcRT, wp_iEA, wp_srcEL, wp_srcET, wp_add, wp_sub, wp_mul, wp_mod, wp_div, wp_divW, wp_pow18, wp_pow17, wp_pow16, wp_pow30, wp_eqI, wp_neI, wp_cmpI, wp_isN, wp_isNotN, wp_lenL, wp_lenT, wp_abs, wp_int, wp_min2, wp_max2, wp_listL, wp_listT, wp_tupleL, wp_tupleT, wp_ixT0, wp_ixT1, wp_ixL0, wp_neg, wp_ok, wp_srcEL, wp_isB, wp_isNotB, wp_eqB, wp_neB, wp_all, wp_any, wp_slT, wp_slL, wp_rev, wp_revT, wp_revL, wp_disp, wp_pair, wp_pair0, wp_dict0, wipeW, List.foldl_cons, List.foldl_nil, wp_run, List.map, List.length, List.replicate, List.cons_append, List.nil_append, List.append_nil, List.set_cons_zero, List.set_cons_succ, if_true, if_false, Bool.not_true, Bool.not_false, Bool.true_eq_false, Bool.false_eq_true, Nat.reduceAdd, Nat.reduceSub, gName', wp_fldF, ws_fld, wp_lm, wp_din, wp_dget2, wp_dset2, wp_dpop, wp_newD, ws_raise, ws_nxE, ws_par, wp_make, wp_meth, wp_newL_f, wp_newL_t, wp_iT, Option.some.injEq, exists_eq_left', mt, f_k D.hd, wp_sortedD D.hk D.kmap (by rw [List.length_map]; exact D.fewL), hs]
  refine wp_mono fo (fun v s z => ?_) (fun x s z => z)
  exact ⟨by trivial, z.2⟩
theorem compD_keys {ys : List Int} {f : Int → W} {t : CT} {cond : M Bool} {mk mv : M W} {env : Ev} {P : List (Key × W) → Sto → Prop} (nd : ys.Nodup) (hl : ys.length < sizeLine)
    (h : ∀ y ∈ ys, ∃ env1, t.put (.int y) env = some env1 ∧ cond env1 st = .ok true st ∧ mk env1 st = .ok (.int y) st ∧ mv env1 st = .ok (f y) st) (q : P (ys.map fun y => (Sum.inl y, f y)) st) :
    wp (compD (fixS (ys.map W.int)) t cond mk mv env (fixS (ys.map W.int)).fuel 0 [] st) P E := by
  suffices go : ∀ m i, ys.length < i + m → i ≤ ys.length → wp (compD (fixS (ys.map W.int)) t cond mk mv env m i ((ys.take i).map fun y => (Sum.inl y, f y)) st) P E by
    have := go (fixS (ys.map W.int)).fuel 0 (by simp [fixS]) (Nat.zero_le _)
    simpa using this
  intro m
  induction m with
  | zero => intro i h1 h2; omega
  | succ m ih =>
    intro i h1 h2
    show wp (match (some (ys.map W.int)[i]? : Option (Option W)) with | some (some w) => _ | some none => _ | none => _) P E
    by_cases e : i = ys.length
    · subst e
      rw [List.getElem?_eq_none (by simp), List.take_length]
      exact q
    · have hi : i < ys.length := by omega
      have ey : ys[i]? = some ys[i] := List.getElem?_eq_getElem hi
      rw [List.getElem?_map, ey]
      obtain ⟨env1, a1, a2, a3, a4⟩ := h ys[i] (List.getElem_mem hi)
      simp only [Option.map_some, a1, a2, a3, a4, keyi]
      have ln : ((ys.take i).map fun y => ((Sum.inl y : Key), f y)).length < sizeLine := by
        rw [List.length_map, List.length_take]; omega
      rw [if_pos ln]
      have nw : putKW ((ys.take i).map fun y => ((Sum.inl y : Key), f y)) (.inl ys[i]) (f ys[i]) = (ys.take (i + 1)).map fun y => ((Sum.inl y : Key), f y) := by
        rw [putKW_new]
        · rw [take_next ey, List.map_append]; rfl
        · intro kv hk
          obtain ⟨y, hy, rfl⟩ := List.mem_map.mp hk
          intro z
          simp only [Sum.inl.injEq] at z
          subst z
          obtain ⟨j, hj, e2⟩ := List.mem_take_iff_getElem.mp hy
          exact List.pairwise_iff_getElem.mp nd j i (by omega) hi (by omega) e2
      rw [nw]
      exact ih (i + 1) (by omega) (by omega)
/-- what waits -/
def Acc.waits (A : Acc) : List (Key × W) := A.keys.map fun b => (Sum.inl b, W.int (A.wt b).length)
theorem waiting_ok (D : Dk st d A own) : wp (r_Disk_waiting [.ref d] st) P E ↔ P (.ref st.length) (st ++ [.dk A.waits]) := by
  obtain ⟨c, k, L, D, rfl⟩ := D
  have hs := D.keys
  have key := compD_keys (st := st) (ys := A.keys) (f := fun b => W.int (A.wt b).length) (t := .one 1) (cond := mYes) (mk := mVar 1) (mv := mFn fLen (mCons (mOp wIx (mFld [0] "cached" (mVar 0)) (mVar 1)) (mNil))) (env := [some (.ref d), none]) (P := fun kvs s => kvs = A.waits ∧ s = st) (E := NoE)
    (keys_lt.imp fun h => Int.ne_of_lt h) ?_ (fun y hy => ?_) ⟨rfl, rfl⟩
  · obtain ⟨kvs, s, e1, rfl, rfl⟩ := wp_get key
    simp only [r_Disk_waiting, m_Disk_waiting]
    rw [wp_run]
    simp only [List.map, List.length, List.replicate, List.cons_append, List.nil_append, List.append_nil, Nat.reduceAdd, Nat.reduceSub]
    rw [ws_ret]
    unfold mDcomp
    rw [wp_bind]
    simp only [ws_seq, ws_if, ws_set, ws_sub, ws_ret, ws_retN, ws_expr, ws_sNx, ws_for, wp_op, wp_var0, wp_varS, wp_c, wp_mB, wp_toB, wp_tr, wp_trB_bl, wp_trB_non, wp_trB_int, wp_not, wp_and, wp_or, wp_if, wp_mBl, wp_nil, wp_cons, wp_tup, wp_lst, wp_lstS, wp_newL_t, wp_newL_f, wp_chain, wp_call, wp_fn, wp_sl, wp_noPart, wp_part, wp_comp, wp_yes, wp_iL, wp_iA, wp_srcL, wp_srcS, wp_srcAL, wp_srcAT, wp_iR1, wp_iR2, wp_rng1, wp_rng2, wp_iRv, wp_srcRL, wp_srcRT, wp_iEA, wp_srcEL, wp_srcET, wp_add, wp_sub, wp_mul, wp_mod, wp_div, wp_divW, wp_pow18, wp_pow17, wp_pow16, wp_pow30, wp_eqI, wp_neI, wp_cmpI, wp_isN, wp_isNotN, wp_lenL, wp_lenT, wp_abs, wp_int, wp_min2, wp_max2, wp_listL, wp_listT, wp_tupleL, wp_tupleT, wp_ixT0, wp_ixT1, wp_ixL0, wp_neg, wp_ok, wp_srcEL, wp_isB, wp_isNotB, wp_eqB, wp_neB, wp_all, wp_any, wp_slT, wp_slL, wp_rev, wp_revT, wp_revL, wp_disp, wp_pair, wp_pair0, wp_dict0, wipeW, List.foldl_cons, List.foldl_nil, wp_run, List.map, List.length, List.replicate, List.cons_append, List.nil_append, List.append_nil, List.set_cons_zero, List.set_cons_succ, if_true, if_false, Bool.not_true, Bool.not_false, Bool.true_eq_false, Bool.false_eq_true, Nat.reduceAdd, Nat.reduceSub, gName', wp_fldF, ws_fld, wp_lm, wp_din, wp_dget2, wp_dset2, wp_dpop, wp_newD, ws_raise, ws_nxE, ws_par, wp_make, wp_meth, wp_newL_f, wp_newL_t, wp_iT, Option.some.injEq, exists_eq_left', f_k D.hd, wp_sortedD D.hk D.kmap (by rw [List.length_map]; exact D.fewL), hs]
    rw [wp_bind, e1]
    exact Iff.rfl
  · have := nodup_few (l := A.keys) (u := A.U) (keys_lt.imp fun h => Int.ne_of_lt h) fun x hx => (mem_keys.mp hx).1
    have := D.few
    simp only [sizeLine]
    omega
  · obtain ⟨_, hy⟩ := mem_keys.mp hy
    obtain ⟨r, hr⟩ := D.has hy
    have := (wp_get (show wp (mFn fLen (mCons (mOp wIx (mFld [0] "cached" (mVar 0)) (mVar 1)) mNil) [some (.ref d), some (.int y)] st) (fun w s => w = .int (A.wt y).length ∧ s = st) NoE by
      simp only [ws_seq, ws_if, ws_set, ws_sub, ws_ret, ws_retN, ws_expr, ws_sNx, ws_for, wp_op, wp_var0, wp_varS, wp_c, wp_mB, wp_toB, wp_tr, wp_trB_bl, wp_trB_non, wp_trB_int, wp_not, wp_and, wp_or, wp_if, wp_mBl, wp_nil, wp_cons, wp_tup, wp_lst, wp_lstS, wp_newL_t, wp_newL_f, wp_chain, wp_call, wp_fn, wp_sl, wp_noPart, wp_part, wp_comp, wp_yes, wp_iL, wp_iA, wp_srcL, wp_srcS, wp_srcAL, wp_srcAT, wp_iR1, wp_iR2, wp_rng1, wp_rng2, wp_iRv, wp_srcRL, wp_srcRT, wp_iEA, wp_srcEL, wp_srcET, wp_add, wp_sub, wp_mul, wp_mod, wp_div, wp_divW, wp_pow18, wp_pow17, wp_pow16, wp_pow30, wp_eqI, wp_neI, wp_cmpI, wp_isN, wp_isNotN, wp_lenL, wp_lenT, wp_abs, wp_int, wp_min2, wp_max2, wp_listL, wp_listT, wp_tupleL, wp_tupleT, wp_ixT0, wp_ixT1, wp_ixL0, wp_neg, wp_ok, wp_srcEL, wp_isB, wp_isNotB, wp_eqB, wp_neB, wp_all, wp_any, wp_slT, wp_slL, wp_rev, wp_revT, wp_revL, wp_disp, wp_pair, wp_pair0, wp_dict0, wipeW, List.foldl_cons, List.foldl_nil, wp_run, List.map, List.length, List.replicate, List.cons_append, List.nil_append, List.append_nil, List.set_cons_zero, List.set_cons_succ, if_true, if_false, Bool.not_true, Bool.not_false, Bool.true_eq_false, Bool.false_eq_true, Nat.reduceAdd, Nat.reduceSub, gName', wp_fldF, ws_fld, wp_lm, wp_din, wp_dget2, wp_dset2, wp_dpop, wp_newD, ws_raise, ws_nxE, ws_par, wp_make, wp_meth, wp_newL_f, wp_newL_t, wp_iT, Option.some.injEq, exists_eq_left', f_k D.hd, wp_ixD D.hk keyi (lk_mem D.nk hr), wp_lenR (D.row _ _ hr).1]
      exact ⟨by trivial, by trivial⟩))
    obtain ⟨w, s, e1, rfl, rfl⟩ := this
    exact ⟨_, rfl, rfl, rfl, e1⟩
end
end Lw
namespace Lw
open PySem L2 Mi
/-! the law's own account -/
def bkL (l w : Nat) (p : Option Int) (n : Int) : List (Key × W) := [(Sum.inr "lying", .ref l), (Sum.inr "waits", .ref w), (Sum.inr "power", pwW p), (Sum.inr "reached", .int n)]
def rvL (M : List (Int × List W)) : List (Key × W) := M.map fun p => (Sum.inl p.1, W.lst p.2)
theorem rv_mem {M : List (Int × List W)} (nd : (M.map (·.1)).Nodup) {b : Int} {r : List W} (h : (b, r) ∈ M) : lkW (rvL M) (.inl b) = some (.lst r) := by
  induction M with
  | nil => cases h
  | cons p M ih =>
    rw [List.map_cons, List.nodup_cons] at nd
    simp only [rvL, lkW, List.map_cons] at ih ⊢
    rcases List.mem_cons.mp h with e | e
    · subst e
      simp
    · have : p.1 ≠ b := fun z => nd.1 (List.mem_map.mpr ⟨_, e, z.symm⟩)
      rw [List.find?_cons_of_neg (by simpa using this)]
      exact ih nd.2 e
theorem rv_not {M : List (Int × List W)} {b : Int} (h : b ∉ M.map (·.1)) : lkW (rvL M) (.inl b) = none := by
  induction M with
  | nil => rfl
  | cons p M ih =>
    rw [List.map_cons, List.mem_cons, not_or] at h
    simp only [rvL, lkW, List.map_cons] at ih ⊢
    rw [List.find?_cons_of_neg (by simpa using fun e => h.1 e.symm)]
    exact ih h.2
theorem drop_rv {M : List (Int × List W)} {b : Int} : dropKW (rvL M) (.inl b) = rvL (M.filter fun p => decide (p.1 ≠ b)) := by
  unfold dropKW rvL
  rw [List.filter_map]
  congr 1
  refine List.filter_congr fun p _ => ?_
  simp
/-- a row is set -/
def putM (M : List (Int × List W)) (b : Int) (r : List W) : List (Int × List W) := if b ∈ M.map (·.1) then M.map fun p => if p.1 = b then (p.1, r) else p else M ++ [(b, r)]
theorem put_rv {M : List (Int × List W)} {b : Int} {r : List W} : putKW (rvL M) (.inl b) (.lst r) = rvL (putM M b r) := by
  unfold putM
  by_cases h : b ∈ M.map (·.1)
  · rw [if_pos h]
    have : ((rvL M).any fun kv => decide (kv.1 = Sum.inl b)) = true := by
      rw [List.any_eq_true]
      obtain ⟨p, hp, rfl⟩ := List.mem_map.mp h
      exact ⟨_, List.mem_map.mpr ⟨p, hp, rfl⟩, by simp⟩
    unfold putKW
    rw [if_pos this]
    unfold rvL
    rw [List.map_map, List.map_map]
    refine List.map_congr_left fun p _ => ?_
    by_cases e : p.1 = b
    · simp [e]
    · simp [e]
  · rw [if_neg h, putKW_new]
    · simp [rvL]
    · intro kv hk
      obtain ⟨p, hp, rfl⟩ := List.mem_map.mp hk
      intro z
      simp only [Sum.inl.injEq] at z
      exact h (List.mem_map.mpr ⟨p, hp, z⟩)
theorem putM_keys {M : List (Int × List W)} {b : Int} {r : List W} (nd : (M.map (·.1)).Nodup) : ((putM M b r).map (·.1)).Nodup ∧ ∀ x, x ∈ (putM M b r).map (·.1) ↔ x = b ∨ x ∈ M.map (·.1) := by
  unfold putM
  by_cases h : b ∈ M.map (·.1)
  · rw [if_pos h]
    have : (M.map fun p => if p.1 = b then (p.1, r) else p).map (·.1) = M.map (·.1) := by
      rw [List.map_map]
      refine List.map_congr_left fun p _ => ?_
      simp only [Function.comp]
      split <;> rfl
    rw [this]
    exact ⟨nd, fun x => ⟨.inr, fun z => z.elim (fun e => e ▸ h) id⟩⟩
  · rw [if_neg h, List.map_append]
    refine ⟨?_, fun x => ?_⟩
    · rw [List.nodup_append]
      exact ⟨nd, by simp, fun x hx y hy => by
        simp only [List.map_cons, List.map_nil, List.mem_singleton] at hy
        rw [hy]
        intro z
        exact h (z ▸ hx)⟩
    · simp only [List.map_cons, List.map_nil, List.mem_append, List.mem_singleton]
      exact Or.comm
theorem putM_mem {M : List (Int × List W)} {b x : Int} {r q : List W} (h : (x, q) ∈ putM M b r) : (x = b ∧ q = r) ∨ (x ≠ b ∧ (x, q) ∈ M) := by
  unfold putM at h
  split at h
  · obtain ⟨p, hp, e⟩ := List.mem_map.mp h
    split at e
    · rename_i e2
      cases e
      exact .inl ⟨e2, rfl⟩
    · rename_i e2
      subst e
      exact .inr ⟨e2, hp⟩
  · rename_i hn
    rcases List.mem_append.mp h with h | h
    · exact .inr ⟨fun z => hn (List.mem_map.mpr ⟨_, h, z⟩), h⟩
    · simp only [List.mem_singleton, Prod.mk.injEq] at h
      exact .inl h
structure BkS (st : Sto) (k l w : Nat) (M : List (Int × List W)) (A : Acc) : Prop where
  hb : st[k]? = some (.dk (bkL l w A.pw A.n))
  hl : st[l]? = some (.lst A.lie)
  hw : st[w]? = some (.dk (rvL M))
  row : ∀ b r, (b, r) ∈ M → A.wt b = r ∧ r ≠ [] ∧ b ∈ A.U
  non : ∀ b, b ∉ M.map (·.1) → A.wt b = []
  nk : (M.map (·.1)).Nodup
  nr : k ≠ l ∧ k ≠ w ∧ l ≠ w
  len : A.lie.length = A.B
  uni : ∀ b ∈ A.U, 0 ≤ b ∧ b < A.B
  few : A.U.length < 64
def Bk (st : Sto) (k : Nat) (A : Acc) (own : List Nat) : Prop := ∃ l w M, BkS st k l w M A ∧ own = [k, l, w]
section
variable {st s : Sto} {k : Nat} {A : Acc} {own : List Nat} {b : Int} {P : W → Sto → Prop} {E : Xc → Sto → Prop}
theorem Bk.at (D : Bk st k A own) (h : ∀ j ∈ own, ∀ n, st[j]? = some n → s[j]? = some n) : Bk s k A own := by
  obtain ⟨l, w, M, D, rfl⟩ := D
  exact ⟨l, w, M, { D with hb := h k (by simp) _ D.hb, hl := h l (by simp) _ D.hl, hw := h w (by simp) _ D.hw }, rfl⟩
theorem Bk.go {o o' : List Nat} (D : Bk st k A own) (g : Go o st o' s) (h : ∀ j ∈ own, j ∉ o) : Bk s k A own := D.at fun j m n e => g.fr j n (h j m) e
theorem Bk.lt (D : Bk st k A own) : ∀ j ∈ own, j < st.length := by
  obtain ⟨l, w, M, D, rfl⟩ := D
  intro j h
  simp only [List.mem_cons, List.not_mem_nil, or_false] at h
  rcases h with rfl | rfl | rfl
  · exact lt_of_get D.hb
  · exact lt_of_get D.hl
  · exact lt_of_get D.hw
theorem BkS.has {l w : Nat} {M : List (Int × List W)} (D : BkS st k l w M A) (h : A.wt b ≠ []) : (b, A.wt b) ∈ M := by
  by_cases m : b ∈ M.map (·.1)
  · obtain ⟨⟨x, r⟩, m1, rfl⟩ := List.mem_map.mp m
    have := (D.row _ _ m1).1
    simp only at this ⊢
    rw [this]
    exact m1
  · exact absurd (D.non b m) h
theorem BkS.get {l w : Nat} {M : List (Int × List W)} (D : BkS st k l w M A) (b : Int) : lkW (rvL M) (.inl b) = if A.wt b = [] then none else some (.lst (A.wt b)) := by
  by_cases h : A.wt b = []
  · rw [if_pos h]
    refine rv_not fun m => ?_
    obtain ⟨⟨x, r⟩, m1, rfl⟩ := List.mem_map.mp m
    obtain ⟨h1, h2, _⟩ := D.row _ _ m1
    exact h2 (h1 ▸ h)
  · rw [if_neg h]
    exact rv_mem D.nk (D.has h)
theorem BkS.keys {l w : Nat} {M : List (Int × List W)} (D : BkS st k l w M A) : sortZ (M.map (·.1)) = A.keys := keys_of D.nk fun b => ⟨fun m => by
  obtain ⟨⟨x, r⟩, m1, rfl⟩ := List.mem_map.mp m
  obtain ⟨h1, h2, h3⟩ := D.row _ _ m1
  exact ⟨h3, by rw [h1]; exact h2⟩, fun ⟨_, m⟩ => List.mem_map.mpr ⟨_, D.has m, rfl⟩⟩
theorem BkS.fewM {l w : Nat} {M : List (Int × List W)} (D : BkS st k l w M A) : M.length < 64 := by
  have := nodup_few D.nk (u := A.U) fun x hx => by
    obtain ⟨⟨y, r⟩, m, rfl⟩ := List.mem_map.mp hx
    exact (D.row _ _ m).2.2
  rw [List.length_map] at this
  exact Nat.lt_of_le_of_lt this D.few
theorem lk_ly {l w : Nat} {p : Option Int} {n : Int} : lkW (bkL l w p n) (.inr "lying") = some (.ref l) := rfl
theorem lk_wa {l w : Nat} {p : Option Int} {n : Int} : lkW (bkL l w p n) (.inr "waits") = some (.ref w) := rfl
theorem lk_po {l w : Nat} {p : Option Int} {n : Int} : lkW (bkL l w p n) (.inr "power") = some (pwW p) := rfl
theorem lk_re {l w : Nat} {p : Option Int} {n : Int} : lkW (bkL l w p n) (.inr "reached") = some (.int n) := rfl
theorem pt_po {l w : Nat} {p q : Option Int} {n : Int} : putKW (bkL l w p n) (.inr "power") (pwW q) = bkL l w q n := rfl
theorem pt_re {l w : Nat} {p : Option Int} {n m : Int} : putKW (bkL l w p n) (.inr "reached") (.int m) = bkL l w p m := rfl
theorem pt_wa {l w v : Nat} {p : Option Int} {n : Int} : putKW (bkL l w p n) (.inr "waits") (.ref v) = bkL l v p n := rfl
theorem b_l {l w : Nat} {p : Option Int} {n : Int} (e : st[k]? = some (.dk (bkL l w p n))) : wp (wIx (.ref k) (.str "lying") st) P E ↔ P (.ref l) st := wp_ixD e keys' lk_ly
theorem b_w {l w : Nat} {p : Option Int} {n : Int} (e : st[k]? = some (.dk (bkL l w p n))) : wp (wIx (.ref k) (.str "waits") st) P E ↔ P (.ref w) st := wp_ixD e keys' lk_wa
theorem b_p {l w : Nat} {p : Option Int} {n : Int} (e : st[k]? = some (.dk (bkL l w p n))) : wp (wIx (.ref k) (.str "power") st) P E ↔ P (pwW p) st := wp_ixD e keys' lk_po
theorem b_r {l w : Nat} {p : Option Int} {n : Int} (e : st[k]? = some (.dk (bkL l w p n))) : wp (wIx (.ref k) (.str "reached") st) P E ↔ P (.int n) st := wp_ixD e keys' lk_re
theorem wrote_ok {w : W} (D : Bk st k A own) (hb : b ∈ A.U) (hl : (A.wt b).length < 1000) : wp (r_law_wrote [.ref k, .int b, w] st) (fun v s => v = .non ∧ Bk s k (A.write b w) own ∧ Go own st own s) NoE := by
  obtain ⟨l, q, M, D, rfl⟩ := D
  obtain ⟨n1, n2, n3⟩ := D.nr
  have dk1 : (dkOf st (.ref q)).isSome = true := by rw [dk_is D.hw]; rfl
  have gd : (lkW (rvL M) (.inl b)).getD (.lst []) = .lst (A.wt b) := by
    rw [D.get]
    by_cases h : A.wt b = []
    · rw [if_pos h, h]; rfl
    · rw [if_neg h]; rfl
  have hM := D.fewM
  have pd := put_d (v := .lst (A.wt b ++ [w])) D.hw (keyi (i := b)) (by simp only [rvL, List.length_map, sizeLine]; omega)
  rw [put_rv] at pd
  simp only [r_law_wrote, m_law_wrote]
  simp only [ws_seq, ws_if, ws_set, ws_sub, ws_ret, ws_retN, ws_expr, ws_sNx, ws_for, wp_op, wp_var0, wp_varS, wp_c, wp_mB, wp_toB, wp_tr, wp_trB_bl, wp_trB_non, wp_trB_int, wp_not, wp_and, wp_or, wp_if, wp_mBl, wp_nil, wp_cons, wp_tup, wp_lst, wp_lstS, wp_newL_t, wp_newL_f, wp_chain, wp_call, wp_fn, wp_sl, wp_noPart, wp_part, wp_comp, wp_yes, wp_iL, wp_iA, wp_srcL, wp_srcS, wp_srcAL, wp_srcAT, wp_iR1, wp_iR2, wp_rng1, wp_rng2, wp_iRv, wp_srcRL, wp_srcRT, wp_iEA, wp_srcEL, wp_srcET, wp_add, wp_sub, wp_mul, wp_mod, wp_div, wp_divW, wp_pow18, wp_pow17, wp_pow16, wp_pow30, wp_eqI, wp_neI, wp_cmpI, wp_isN, wp_isNotN, wp_lenL, wp_lenT, wp_abs, wp_int, wp_min2, wp_max2, wp_listL, wp_listT, wp_tupleL, wp_tupleT, wp_ixT0, wp_ixT1, wp_ixL0, wp_neg, wp_ok, wp_srcEL, wp_isB, wp_isNotB, wp_eqB, wp_neB, wp_all, wp_any, wp_slT, wp_slL, wp_rev, wp_revT, wp_revL, wp_disp, wp_pair, wp_pair0, wp_dict0, wipeW, List.foldl_cons, List.foldl_nil, wp_run, List.map, List.length, List.replicate, List.cons_append, List.nil_append, List.append_nil, List.set_cons_zero, List.set_cons_succ, if_true, if_false, Bool.not_true, Bool.not_false, Bool.true_eq_false, Bool.false_eq_true, Nat.reduceAdd, Nat.reduceSub, gName', wp_fldF, ws_fld, wp_lm, wp_din, wp_dget2, wp_dset2, wp_dpop, wp_newD, ws_raise, ws_nxE, ws_par, wp_make, wp_meth, wp_newL_f, wp_newL_t, wp_iT, Option.some.injEq, exists_eq_left', b_w D.hb, dk1, true_and, wp_dgetR D.hw keyi, gd, wp_addL]
  refine ⟨by simp only [sizeLine]; omega, ?_⟩
  rw [wp_stR pd]
  obtain ⟨k1, k2⟩ := putM_keys (b := b) (r := A.wt b ++ [w]) D.nk
  refine ⟨⟨l, q, putM M b (A.wt b ++ [w]), ⟨by rw [get_setn n2.symm]; exact D.hb, by rw [get_setn n3.symm]; exact D.hl, get_setp D.hw, fun x r m => ?_, fun x m => ?_, k1, D.nr, D.len, D.uni, D.few⟩, rfl⟩, Go.set (by simp) fun i h => h⟩
  · show (if x = b then A.wt x ++ [w] else A.wt x) = r ∧ r ≠ [] ∧ x ∈ A.U
    rcases putM_mem m with ⟨rfl, rfl⟩ | ⟨z, m⟩
    · rw [if_pos rfl]
      exact ⟨rfl, by simp, hb⟩
    · rw [if_neg z]
      exact D.row _ _ m
  · show (if x = b then A.wt x ++ [w] else A.wt x) = []
    rw [k2, not_or] at m
    rw [if_neg m.1]
    exact D.non x m.2
end
end Lw
namespace Lw
open PySem L2 Mi
theorem cut1 {x : W} {xs : List W} : cutW (x :: xs) (some 1) none = xs := by
  have e1 : HT.sIx (x :: xs).length 0 (some 1) = 1 := by
    rw [show (1 : Int) = ((1 : Nat) : Int) by rfl, HT.sIx_nat]
    simp
  have e2 : HT.sIx (x :: xs).length (x :: xs).length none = (x :: xs).length := rfl
  simp only [cutW, e1, e2]
  simp
section
variable {st s : Sto} {k : Nat} {A : Acc} {own : List Nat} {b : Int} {P : W → Sto → Prop} {E : Xc → Sto → Prop}
theorem bstop_ok (D : Bk st k A own) (hp : A.pw = some 0) : wp (r_law_reached [.ref k, .int b] st) (fun v s => v = .bl false ∧ s = st) NoE := by
  obtain ⟨l, w, M, D, rfl⟩ := D
  simp only [r_law_reached, m_law_reached]
  simp only [ws_seq, ws_if, ws_set, ws_sub, ws_ret, ws_retN, ws_expr, ws_sNx, ws_for, wp_op, wp_var0, wp_varS, wp_c, wp_mB, wp_toB, wp_tr, wp_trB_bl, wp_trB_non, wp_trB_int, wp_not, wp_and, wp_or, wp_if, wp_mBl, wp_nil, wp_cons, wp_tup, wp_lst, wp_lstS, wp_newL_t, wp_newL_f, wp_chain, wp_call, wp_fn, wp_sl, wp_noPart, wp_part, wp_comp, wp_yes, wp_iL, wp_iA, wp_srcL, wp_srcS, wp_srcAL, wp_srcAT, wp_iR1, wp_iR2, wp_rng1, wp_rng2, wp_iRv, wp_srcRL, wp_srcRT, wp_iEA, wp_srcEL, wp_srcET, wp_add, wp_sub, wp_mul, wp_mod, wp_div, wp_divW, wp_pow18, wp_pow17, wp_pow16, wp_pow30, wp_eqI, wp_neI, wp_cmpI, wp_isN, wp_isNotN, wp_lenL, wp_lenT, wp_abs, wp_int, wp_min2, wp_max2, wp_listL, wp_listT, wp_tupleL, wp_tupleT, wp_ixT0, wp_ixT1, wp_ixL0, wp_neg, wp_ok, wp_srcEL, wp_isB, wp_isNotB, wp_eqB, wp_neB, wp_all, wp_any, wp_slT, wp_slL, wp_rev, wp_revT, wp_revL, wp_disp, wp_pair, wp_pair0, wp_dict0, wipeW, List.foldl_cons, List.foldl_nil, wp_run, List.map, List.length, List.replicate, List.cons_append, List.nil_append, List.append_nil, List.set_cons_zero, List.set_cons_succ, if_true, if_false, Bool.not_true, Bool.not_false, Bool.true_eq_false, Bool.false_eq_true, Nat.reduceAdd, Nat.reduceSub, gName', wp_fldF, ws_fld, wp_lm, wp_din, wp_dget2, wp_dset2, wp_dpop, wp_newD, ws_raise, ws_nxE, ws_par, wp_make, wp_meth, wp_newL_f, wp_newL_t, wp_iT, Option.some.injEq, exists_eq_left', b_p D.hb, wp_eqP, hp, decide_true]
  exact ⟨by trivial, by trivial⟩
theorem bstep_ok (D : Bk st k A own) (hb : A.wt b ≠ []) (hp : A.pw ≠ some 0) : wp (r_law_reached [.ref k, .int b] st) (fun v s => v = .bl true ∧ Bk s k (A.step b) own ∧ Go own st own s) NoE := by
  obtain ⟨l, w, M, D, rfl⟩ := D
  obtain ⟨n1, n2, n3⟩ := D.nr
  have hr := D.has hb
  have hM := D.fewM
  obtain ⟨_, _, h3⟩ := D.row _ _ hr
  obtain ⟨u1, u2⟩ := D.uni b h3
  obtain ⟨x, xs, hx⟩ : ∃ x xs, A.wt b = x :: xs := by
    cases e : A.wt b with
    | nil => exact absurd e hb
    | cons x xs => exact ⟨x, xs, rfl⟩
  have hbn : b = (b.toNat : Int) := (Int.toNat_of_nonneg u1).symm
  have hbl : b.toNat < A.lie.length := by rw [D.len]; omega
  have hg := D.get b
  rw [if_neg hb, hx] at hg
  have few : ∀ l w p n, (bkL l w p n).length < sizeLine := fun l w p n => by simp [bkL, sizeLine]
  simp only [r_law_reached, m_law_reached]
  rw [wp_run]
  simp only [List.map, List.length, List.replicate, List.cons_append, List.nil_append, List.append_nil, Nat.reduceAdd, Nat.reduceSub]
  rw [ws_seq]
  refine ws_nx (N := fun e s => e = [some (.ref k), some (.int b), none] ∧ s = st) ?_ ?_
  · simp only [ws_seq, ws_if, ws_set, ws_sub, ws_ret, ws_retN, ws_expr, ws_sNx, ws_for, wp_op, wp_var0, wp_varS, wp_c, wp_mB, wp_toB, wp_tr, wp_trB_bl, wp_trB_non, wp_trB_int, wp_not, wp_and, wp_or, wp_if, wp_mBl, wp_nil, wp_cons, wp_tup, wp_lst, wp_lstS, wp_newL_t, wp_newL_f, wp_chain, wp_call, wp_fn, wp_sl, wp_noPart, wp_part, wp_comp, wp_yes, wp_iL, wp_iA, wp_srcL, wp_srcS, wp_srcAL, wp_srcAT, wp_iR1, wp_iR2, wp_rng1, wp_rng2, wp_iRv, wp_srcRL, wp_srcRT, wp_iEA, wp_srcEL, wp_srcET, wp_add, wp_sub, wp_mul, wp_mod, wp_div, wp_divW, wp_pow18, wp_pow17, wp_pow16, wp_pow30, wp_eqI, wp_neI, wp_cmpI, wp_isN, wp_isNotN, wp_lenL, wp_lenT, wp_abs, wp_int, wp_min2, wp_max2, wp_listL, wp_listT, wp_tupleL, wp_tupleT, wp_ixT0, wp_ixT1, wp_ixL0, wp_neg, wp_ok, wp_srcEL, wp_isB, wp_isNotB, wp_eqB, wp_neB, wp_all, wp_any, wp_slT, wp_slL, wp_rev, wp_revT, wp_revL, wp_disp, wp_pair, wp_pair0, wp_dict0, wipeW, List.foldl_cons, List.foldl_nil, wp_run, List.map, List.length, List.replicate, List.cons_append, List.nil_append, List.append_nil, List.set_cons_zero, List.set_cons_succ, if_true, if_false, Bool.not_true, Bool.not_false, Bool.true_eq_false, Bool.false_eq_true, Nat.reduceAdd, Nat.reduceSub, gName', wp_fldF, ws_fld, wp_lm, wp_din, wp_dget2, wp_dset2, wp_dpop, wp_newD, ws_raise, ws_nxE, ws_par, wp_make, wp_meth, wp_newL_f, wp_newL_t, wp_iT, Option.some.injEq, exists_eq_left', b_p D.hb, wp_eqP, decide_eq_true_eq, hp]
    exact ⟨by trivial, by trivial⟩
  rintro _ st ⟨rfl, rfl⟩
  rw [ws_seq]
  refine ws_nx (N := fun e s => e = [some (.ref k), some (.int b), none] ∧ s = st.set k (.dk (bkL l w (A.pw.map fun i => i - 1) A.n))) ?_ ?_
  · rw [ws_if]
    simp only [ws_seq, ws_if, ws_set, ws_sub, ws_ret, ws_retN, ws_expr, ws_sNx, ws_for, wp_op, wp_var0, wp_varS, wp_c, wp_mB, wp_toB, wp_tr, wp_trB_bl, wp_trB_non, wp_trB_int, wp_not, wp_and, wp_or, wp_if, wp_mBl, wp_nil, wp_cons, wp_tup, wp_lst, wp_lstS, wp_newL_t, wp_newL_f, wp_chain, wp_call, wp_fn, wp_sl, wp_noPart, wp_part, wp_comp, wp_yes, wp_iL, wp_iA, wp_srcL, wp_srcS, wp_srcAL, wp_srcAT, wp_iR1, wp_iR2, wp_rng1, wp_rng2, wp_iRv, wp_srcRL, wp_srcRT, wp_iEA, wp_srcEL, wp_srcET, wp_add, wp_sub, wp_mul, wp_mod, wp_div, wp_divW, wp_pow18, wp_pow17, wp_pow16, wp_pow30, wp_eqI, wp_neI, wp_cmpI, wp_isN, wp_isNotN, wp_lenL, wp_lenT, wp_abs, wp_int, wp_min2, wp_max2, wp_listL, wp_listT, wp_tupleL, wp_tupleT, wp_ixT0, wp_ixT1, wp_ixL0, wp_neg, wp_ok, wp_srcEL, wp_isB, wp_isNotB, wp_eqB, wp_neB, wp_all, wp_any, wp_slT, wp_slL, wp_rev, wp_revT, wp_revL, wp_disp, wp_pair, wp_pair0, wp_dict0, wipeW, List.foldl_cons, List.foldl_nil, wp_run, List.map, List.length, List.replicate, List.cons_append, List.nil_append, List.append_nil, List.set_cons_zero, List.set_cons_succ, if_true, if_false, Bool.not_true, Bool.not_false, Bool.true_eq_false, Bool.false_eq_true, Nat.reduceAdd, Nat.reduceSub, gName', wp_fldF, ws_fld, wp_lm, wp_din, wp_dget2, wp_dset2, wp_dpop, wp_newD, ws_raise, ws_nxE, ws_par, wp_make, wp_meth, wp_newL_f, wp_newL_t, wp_iT, Option.some.injEq, exists_eq_left', b_p D.hb, isNon_pw]
    cases e : A.pw with
    | none =>
      have hk := D.hb
      rw [e] at hk
      refine ⟨by trivial, List.ext_getElem? fun j => ?_⟩
      by_cases q : k = j
      · subst q; rw [get_setp hk]; exact hk
      · rw [get_setn q]
    | some p =>
      have hk := D.hb
      rw [e] at hk
      have pd := put_d (v := pwW (some (p - 1))) hk (keys' (x := "power")) (few _ _ _ _)
      rw [pt_po] at pd
      simp only [ws_seq, ws_if, ws_set, ws_sub, ws_ret, ws_retN, ws_expr, ws_sNx, ws_for, wp_op, wp_var0, wp_varS, wp_c, wp_mB, wp_toB, wp_tr, wp_trB_bl, wp_trB_non, wp_trB_int, wp_not, wp_and, wp_or, wp_if, wp_mBl, wp_nil, wp_cons, wp_tup, wp_lst, wp_lstS, wp_newL_t, wp_newL_f, wp_chain, wp_call, wp_fn, wp_sl, wp_noPart, wp_part, wp_comp, wp_yes, wp_iL, wp_iA, wp_srcL, wp_srcS, wp_srcAL, wp_srcAT, wp_iR1, wp_iR2, wp_rng1, wp_rng2, wp_iRv, wp_srcRL, wp_srcRT, wp_iEA, wp_srcEL, wp_srcET, wp_add, wp_sub, wp_mul, wp_mod, wp_div, wp_divW, wp_pow18, wp_pow17, wp_pow16, wp_pow30, wp_eqI, wp_neI, wp_cmpI, wp_isN, wp_isNotN, wp_lenL, wp_lenT, wp_abs, wp_int, wp_min2, wp_max2, wp_listL, wp_listT, wp_tupleL, wp_tupleT, wp_ixT0, wp_ixT1, wp_ixL0, wp_neg, wp_ok, wp_srcEL, wp_isB, wp_isNotB, wp_eqB, wp_neB, wp_all, wp_any, wp_slT, wp_slL, wp_rev, wp_revT, wp_revL, wp_disp, wp_pair, wp_pair0, wp_dict0, wipeW, List.foldl_cons, List.foldl_nil, wp_run, List.map, List.length, List.replicate, List.cons_append, List.nil_append, List.append_nil, List.set_cons_zero, List.set_cons_succ, if_true, if_false, Bool.not_true, Bool.not_false, Bool.true_eq_false, Bool.false_eq_true, Nat.reduceAdd, Nat.reduceSub, gName', wp_fldF, ws_fld, wp_lm, wp_din, wp_dget2, wp_dset2, wp_dpop, wp_newD, ws_raise, ws_nxE, ws_par, wp_make, wp_meth, wp_newL_f, wp_newL_t, wp_iT, Option.some.injEq, exists_eq_left', b_p hk, pwW]
      rw [show W.int (p - 1) = pwW (some (p - 1)) from rfl, wp_stR pd]
      exact ⟨by trivial, by trivial⟩
  rintro _ _ ⟨rfl, rfl⟩
  generalize hp' : A.pw.map (fun i => i - 1) = p'
  have g1 : (st.set k (.dk (bkL l w p' A.n)))[k]? = some (.dk (bkL l w p' A.n)) := get_setp D.hb
  have g2 : (st.set k (.dk (bkL l w p' A.n)))[w]? = some (.dk (rvL M)) := by rw [get_setn n2]; exact D.hw
  have dk1 : (dkOf (st.set k (.dk (bkL l w p' A.n))) (.ref w)).isSome = true := by rw [dk_is g2]; rfl
  rw [ws_seq]
  refine ws_nx (N := fun e s => e = [some (.ref k), some (.int b), some (.lst (x :: xs))] ∧ s = (st.set k (.dk (bkL l w p' A.n))).set w (.dk (rvL (M.filter fun p => decide (p.1 ≠ b))))) ?_ ?_
  · simp only [ws_seq, ws_if, ws_set, ws_sub, ws_ret, ws_retN, ws_expr, ws_sNx, ws_for, wp_op, wp_var0, wp_varS, wp_c, wp_mB, wp_toB, wp_tr, wp_trB_bl, wp_trB_non, wp_trB_int, wp_not, wp_and, wp_or, wp_if, wp_mBl, wp_nil, wp_cons, wp_tup, wp_lst, wp_lstS, wp_newL_t, wp_newL_f, wp_chain, wp_call, wp_fn, wp_sl, wp_noPart, wp_part, wp_comp, wp_yes, wp_iL, wp_iA, wp_srcL, wp_srcS, wp_srcAL, wp_srcAT, wp_iR1, wp_iR2, wp_rng1, wp_rng2, wp_iRv, wp_srcRL, wp_srcRT, wp_iEA, wp_srcEL, wp_srcET, wp_add, wp_sub, wp_mul, wp_mod, wp_div, wp_divW, wp_pow18, wp_pow17, wp_pow16, wp_pow30, wp_eqI, wp_neI, wp_cmpI, wp_isN, wp_isNotN, wp_lenL, wp_lenT, wp_abs, wp_int, wp_min2, wp_max2, wp_listL, wp_listT, wp_tupleL, wp_tupleT, wp_ixT0, wp_ixT1, wp_ixL0, wp_neg, wp_ok, wp_srcEL, wp_isB, wp_isNotB, wp_eqB, wp_neB, wp_all, wp_any, wp_slT, wp_slL, wp_rev, wp_revT, wp_revL, wp_disp, wp_pair, wp_pair0, wp_dict0, wipeW, List.foldl_cons, List.foldl_nil, wp_run, List.map, List.length, List.replicate, List.cons_append, List.nil_append, List.append_nil, List.set_cons_zero, List.set_cons_succ, if_true, if_false, Bool.not_true, Bool.not_false, Bool.true_eq_false, Bool.false_eq_true, Nat.reduceAdd, Nat.reduceSub, gName', wp_fldF, ws_fld, wp_lm, wp_din, wp_dget2, wp_dset2, wp_dpop, wp_newD, ws_raise, ws_nxE, ws_par, wp_make, wp_meth, wp_newL_f, wp_newL_t, wp_iT, Option.some.injEq, exists_eq_left', b_w g1, dk1, true_and, wp_dpopR g2 keyi hg, drop_rv]
  rintro _ _ ⟨rfl, rfl⟩
  have g3 : ((st.set k (.dk (bkL l w p' A.n))).set w (.dk (rvL (M.filter fun p => decide (p.1 ≠ b)))))[k]? = some (.dk (bkL l w p' A.n)) := by rw [get_setn n2.symm]; exact g1
  have g4 : ((st.set k (.dk (bkL l w p' A.n))).set w (.dk (rvL (M.filter fun p => decide (p.1 ≠ b)))))[l]? = some (.lst A.lie) := by rw [get_setn n3.symm, get_setn n1]; exact D.hl
  rw [ws_seq]
  refine ws_nx (N := fun e s => e = [some (.ref k), some (.int b), some (.lst (x :: xs))] ∧ s = ((st.set k (.dk (bkL l w p' A.n))).set w (.dk (rvL (M.filter fun p => decide (p.1 ≠ b))))).set l (.lst (A.lie.set b.toNat x))) ?_ ?_
  · have := put_l (v := x) g4 hbl
    rw [← hbn] at this
    simp only [ws_seq, ws_if, ws_set, ws_sub, ws_ret, ws_retN, ws_expr, ws_sNx, ws_for, wp_op, wp_var0, wp_varS, wp_c, wp_mB, wp_toB, wp_tr, wp_trB_bl, wp_trB_non, wp_trB_int, wp_not, wp_and, wp_or, wp_if, wp_mBl, wp_nil, wp_cons, wp_tup, wp_lst, wp_lstS, wp_newL_t, wp_newL_f, wp_chain, wp_call, wp_fn, wp_sl, wp_noPart, wp_part, wp_comp, wp_yes, wp_iL, wp_iA, wp_srcL, wp_srcS, wp_srcAL, wp_srcAT, wp_iR1, wp_iR2, wp_rng1, wp_rng2, wp_iRv, wp_srcRL, wp_srcRT, wp_iEA, wp_srcEL, wp_srcET, wp_add, wp_sub, wp_mul, wp_mod, wp_div, wp_divW, wp_pow18, wp_pow17, wp_pow16, wp_pow30, wp_eqI, wp_neI, wp_cmpI, wp_isN, wp_isNotN, wp_lenL, wp_lenT, wp_abs, wp_int, wp_min2, wp_max2, wp_listL, wp_listT, wp_tupleL, wp_tupleT, wp_ixT0, wp_ixT1, wp_ixL0, wp_neg, wp_ok, wp_srcEL, wp_isB, wp_isNotB, wp_eqB, wp_neB, wp_all, wp_any, wp_slT, wp_slL, wp_rev, wp_revT, wp_revL, wp_disp, wp_pair, wp_pair0, wp_dict0, wipeW, List.foldl_cons, List.foldl_nil, wp_run, List.map, List.length, List.replicate, List.cons_append, List.nil_append, List.append_nil, List.set_cons_zero, List.set_cons_succ, if_true, if_false, Bool.not_true, Bool.not_false, Bool.true_eq_false, Bool.false_eq_true, Nat.reduceAdd, Nat.reduceSub, gName', wp_fldF, ws_fld, wp_lm, wp_din, wp_dget2, wp_dset2, wp_dpop, wp_newD, ws_raise, ws_nxE, ws_par, wp_make, wp_meth, wp_newL_f, wp_newL_t, wp_iT, Option.some.injEq, exists_eq_left', b_l g3, wp_stR this]
    exact ⟨by trivial, by trivial⟩
  rintro _ _ ⟨rfl, rfl⟩
  have g5 : (((st.set k (.dk (bkL l w p' A.n))).set w (.dk (rvL (M.filter fun p => decide (p.1 ≠ b))))).set l (.lst (A.lie.set b.toNat x)))[k]? = some (.dk (bkL l w p' A.n)) := by rw [get_setn n1.symm]; exact g3
  rw [ws_seq]
  refine ws_nx (N := fun e s => e = [some (.ref k), some (.int b), some (.lst (x :: xs))] ∧ s[k]? = some (.dk (bkL l w p' (A.n + 1))) ∧ s[l]? = some (.lst (A.lie.set b.toNat x)) ∧ s[w]? = some (.dk (rvL (M.filter fun p => decide (p.1 ≠ b)))) ∧ s.length = st.length ∧ ∀ j, j ≠ k → j ≠ l → j ≠ w → s[j]? = st[j]?) ?_ ?_
  · have pd := put_d (v := .int (A.n + 1)) g5 (keys' (x := "reached")) (few _ _ _ _)
    rw [pt_re] at pd
    simp only [ws_seq, ws_if, ws_set, ws_sub, ws_ret, ws_retN, ws_expr, ws_sNx, ws_for, wp_op, wp_var0, wp_varS, wp_c, wp_mB, wp_toB, wp_tr, wp_trB_bl, wp_trB_non, wp_trB_int, wp_not, wp_and, wp_or, wp_if, wp_mBl, wp_nil, wp_cons, wp_tup, wp_lst, wp_lstS, wp_newL_t, wp_newL_f, wp_chain, wp_call, wp_fn, wp_sl, wp_noPart, wp_part, wp_comp, wp_yes, wp_iL, wp_iA, wp_srcL, wp_srcS, wp_srcAL, wp_srcAT, wp_iR1, wp_iR2, wp_rng1, wp_rng2, wp_iRv, wp_srcRL, wp_srcRT, wp_iEA, wp_srcEL, wp_srcET, wp_add, wp_sub, wp_mul, wp_mod, wp_div, wp_divW, wp_pow18, wp_pow17, wp_pow16, wp_pow30, wp_eqI, wp_neI, wp_cmpI, wp_isN, wp_isNotN, wp_lenL, wp_lenT, wp_abs, wp_int, wp_min2, wp_max2, wp_listL, wp_listT, wp_tupleL, wp_tupleT, wp_ixT0, wp_ixT1, wp_ixL0, wp_neg, wp_ok, wp_srcEL, wp_isB, wp_isNotB, wp_eqB, wp_neB, wp_all, wp_any, wp_slT, wp_slL, wp_rev, wp_revT, wp_revL, wp_disp, wp_pair, wp_pair0, wp_dict0, wipeW, List.foldl_cons, List.foldl_nil, wp_run, List.map, List.length, List.replicate, List.cons_append, List.nil_append, List.append_nil, List.set_cons_zero, List.set_cons_succ, if_true, if_false, Bool.not_true, Bool.not_false, Bool.true_eq_false, Bool.false_eq_true, Nat.reduceAdd, Nat.reduceSub, gName', wp_fldF, ws_fld, wp_lm, wp_din, wp_dget2, wp_dset2, wp_dpop, wp_newD, ws_raise, ws_nxE, ws_par, wp_make, wp_meth, wp_newL_f, wp_newL_t, wp_iT, Option.some.injEq, exists_eq_left', b_r g5, wp_stR pd]
    refine ⟨by trivial, get_setp g5, ?_, ?_, by simp, fun j a1 a2 a3 => by rw [get_setn a1.symm, get_setn a2.symm, get_setn a3.symm, get_setn a1.symm]⟩
    · rw [get_setn n1]; exact get_setp g4
    · rw [get_setn n2, get_setn n3]; exact get_setp g2
  rintro _ s ⟨rfl, k1, k2, k3, k4, k5⟩
  have nkF : ((M.filter fun p => decide (p.1 ≠ b)).map (·.1)).Nodup := (List.filter_sublist.map _).nodup D.nk
  have inF : ∀ y r, (y, r) ∈ M.filter (fun p => decide (p.1 ≠ b)) → y ≠ b ∧ (y, r) ∈ M := fun y r m => by
    obtain ⟨m1, m2⟩ := List.mem_filter.mp m
    exact ⟨by simpa using m2, m1⟩
  have ofF : ∀ y, y ≠ b → y ∈ M.map (·.1) → y ∈ (M.filter fun p => decide (p.1 ≠ b)).map (·.1) := fun y hy m => by
    obtain ⟨p, hp, rfl⟩ := List.mem_map.mp m
    exact List.mem_map.mpr ⟨p, List.mem_filter.mpr ⟨hp, by simpa using hy⟩, rfl⟩
  have hh : (A.wt b).headD .non = x := by rw [hx] <;> rfl
  -- the end, whatever lies in waits
  have fin : ∀ (t : Sto) (M' : List (Int × List W)), t[k]? = some (.dk (bkL l w p' (A.n + 1))) → t[l]? = some (.lst (A.lie.set b.toNat x)) → t[w]? = some (.dk (rvL M')) → t.length = st.length → (∀ j, j ≠ k → j ≠ l → j ≠ w → t[j]? = st[j]?) → (M'.map (·.1)).Nodup →
      (∀ y r, (y, r) ∈ M' → (y = b ∧ r = xs ∧ xs ≠ []) ∨ (y ≠ b ∧ (y, r) ∈ M)) → (∀ y, y ≠ b → y ∈ M.map (·.1) → y ∈ M'.map (·.1)) → (xs ≠ [] → b ∈ M'.map (·.1)) → Bk t k (A.step b) [k, l, w] ∧ Go [k, l, w] st [k, l, w] t := by
    intro t M' t1 t2 t3 t4 t5 t6 t7 t8 t9
    refine ⟨⟨l, w, M', ⟨?_, ?_, t3, fun y r m => ?_, fun y m => ?_, t6, D.nr, ?_, D.uni, D.few⟩, rfl⟩, by omega, fun j n h e => ?_, fun j h => .inl h⟩
    · show t[k]? = some (.dk (bkL l w (A.pw.map fun i => i - 1) (A.n + 1)))
      rw [hp']; exact t1
    · show t[l]? = some (.lst (A.lie.set b.toNat ((A.wt b).headD .non)))
      rw [hh]; exact t2
    · show (if y = b then (A.wt y).tail else A.wt y) = r ∧ r ≠ [] ∧ y ∈ A.U
      rcases t7 y r m with ⟨rfl, rfl, z⟩ | ⟨z, m⟩
      · rw [if_pos rfl, hx]
        exact ⟨rfl, z, h3⟩
      · rw [if_neg z]
        exact D.row _ _ m
    · show (if y = b then (A.wt y).tail else A.wt y) = []
      by_cases z : y = b
      · subst z
        rw [if_pos rfl, hx]
        by_cases q : xs = []
        · exact q
        · exact absurd (t9 q) m
      · rw [if_neg z]
        exact D.non y fun q => m (t8 y z q)
    · show (A.lie.set b.toNat _).length = A.B
      rw [List.length_set]; exact D.len
    · simp only [List.mem_cons, List.not_mem_nil, or_false, not_or] at h
      rw [t5 j h.1 h.2.1 h.2.2]; exact e
  rw [ws_seq]
  simp only [ws_seq, ws_if, ws_set, ws_sub, ws_ret, ws_retN, ws_expr, ws_sNx, ws_for, wp_op, wp_var0, wp_varS, wp_c, wp_mB, wp_toB, wp_tr, wp_trB_bl, wp_trB_non, wp_trB_int, wp_not, wp_and, wp_or, wp_if, wp_mBl, wp_nil, wp_cons, wp_tup, wp_lst, wp_lstS, wp_newL_t, wp_newL_f, wp_chain, wp_call, wp_fn, wp_sl, wp_noPart, wp_part, wp_comp, wp_yes, wp_iL, wp_iA, wp_srcL, wp_srcS, wp_srcAL, wp_srcAT, wp_iR1, wp_iR2, wp_rng1, wp_rng2, wp_iRv, wp_srcRL, wp_srcRT, wp_iEA, wp_srcEL, wp_srcET, wp_add, wp_sub, wp_mul, wp_mod, wp_div, wp_divW, wp_pow18, wp_pow17, wp_pow16, wp_pow30, wp_eqI, wp_neI, wp_cmpI, wp_isN, wp_isNotN, wp_lenL, wp_lenT, wp_abs, wp_int, wp_min2, wp_max2, wp_listL, wp_listT, wp_tupleL, wp_tupleT, wp_ixT0, wp_ixT1, wp_ixL0, wp_neg, wp_ok, wp_srcEL, wp_isB, wp_isNotB, wp_eqB, wp_neB, wp_all, wp_any, wp_slT, wp_slL, wp_rev, wp_revT, wp_revL, wp_disp, wp_pair, wp_pair0, wp_dict0, wipeW, List.foldl_cons, List.foldl_nil, wp_run, List.map, List.length, List.replicate, List.cons_append, List.nil_append, List.append_nil, List.set_cons_zero, List.set_cons_succ, if_true, if_false, Bool.not_true, Bool.not_false, Bool.true_eq_false, Bool.false_eq_true, Nat.reduceAdd, Nat.reduceSub, gName', wp_fldF, ws_fld, wp_lm, wp_din, wp_dget2, wp_dset2, wp_dpop, wp_newD, ws_raise, ws_nxE, ws_par, wp_make, wp_meth, wp_newL_f, wp_newL_t, wp_iT, Option.some.injEq, exists_eq_left', List.length_cons, decide_eq_true_eq]
  cases xs with
  | nil =>
    rw [if_neg (by simp)]
    refine ⟨by trivial, fin s _ k1 k2 k3 k4 k5 nkF (fun y r m => .inr (inF y r m)) ofF fun z => absurd rfl z⟩
  | cons y ys =>
    rw [if_pos (by simp only [List.length_cons]; omega)]
    simp only [ws_seq, ws_if, ws_set, ws_sub, ws_ret, ws_retN, ws_expr, ws_sNx, ws_for, wp_op, wp_var0, wp_varS, wp_c, wp_mB, wp_toB, wp_tr, wp_trB_bl, wp_trB_non, wp_trB_int, wp_not, wp_and, wp_or, wp_if, wp_mBl, wp_nil, wp_cons, wp_tup, wp_lst, wp_lstS, wp_newL_t, wp_newL_f, wp_chain, wp_call, wp_fn, wp_sl, wp_noPart, wp_part, wp_comp, wp_yes, wp_iL, wp_iA, wp_srcL, wp_srcS, wp_srcAL, wp_srcAT, wp_iR1, wp_iR2, wp_rng1, wp_rng2, wp_iRv, wp_srcRL, wp_srcRT, wp_iEA, wp_srcEL, wp_srcET, wp_add, wp_sub, wp_mul, wp_mod, wp_div, wp_divW, wp_pow18, wp_pow17, wp_pow16, wp_pow30, wp_eqI, wp_neI, wp_cmpI, wp_isN, wp_isNotN, wp_lenL, wp_lenT, wp_abs, wp_int, wp_min2, wp_max2, wp_listL, wp_listT, wp_tupleL, wp_tupleT, wp_ixT0, wp_ixT1, wp_ixL0, wp_neg, wp_ok, wp_srcEL, wp_isB, wp_isNotB, wp_eqB, wp_neB, wp_all, wp_any, wp_slT, wp_slL, wp_rev, wp_revT, wp_revL, wp_disp, wp_pair, wp_pair0, wp_dict0, wipeW, List.foldl_cons, List.foldl_nil, wp_run, List.map, List.length, List.replicate, List.cons_append, List.nil_append, List.append_nil, List.set_cons_zero, List.set_cons_succ, if_true, if_false, Bool.not_true, Bool.not_false, Bool.true_eq_false, Bool.false_eq_true, Nat.reduceAdd, Nat.reduceSub, gName', wp_fldF, ws_fld, wp_lm, wp_din, wp_dget2, wp_dset2, wp_dpop, wp_newD, ws_raise, ws_nxE, ws_par, wp_make, wp_meth, wp_newL_f, wp_newL_t, wp_iT, Option.some.injEq, exists_eq_left', cut1, b_w k1]
    have pd := put_d (v := .lst (y :: ys)) k3 (keyi (i := b)) (by
      have := List.length_filter_le (fun p : Int × List W => decide (p.1 ≠ b)) M
      simp only [rvL, List.length_map, sizeLine]; omega)
    rw [put_rv] at pd
    obtain ⟨q1, q2⟩ := putM_keys (b := b) (r := y :: ys) nkF
    rw [wp_stR pd]
    refine ⟨by trivial, fin _ _ (by rw [get_setn n2.symm]; exact k1) (by rw [get_setn n3.symm]; exact k2) (get_setp k3) (by simp [k4]) (fun j a1 a2 a3 => by rw [get_setn a3.symm]; exact k5 j a1 a2 a3) q1 (fun z r m => ?_) (fun z hz m => (q2 z).mpr (.inr (ofF z hz m))) fun _ => (q2 b).mpr (.inl rfl)⟩
    rcases putM_mem m with ⟨rfl, rfl⟩ | ⟨h, m⟩
    · exact .inl ⟨rfl, rfl, by simp⟩
    · exact .inr (inF _ _ m)
end
end Lw
namespace Lw
open PySem L2 Mi
theorem ws_asg {N : KN} {R : KR} {B C : KN} {E : KX} {env : Ev} {st : Sto} {m : M W} {g : MG} {w : W} {s s3 : Sto} {e3 : Ev} (h : m env st = .ok w s) (hg : g w env s = some (e3, s3)) (q : N e3 s3) : ws (sAsg m g env st) N R B C E := by
  unfold sAsg
  rw [h]
  show ws (gDo (g w env s)) N R B C E
  rw [hg]
  exact q
section
variable {st s : Sto} {k : Nat} {A : Acc} {own : List Nat} {b : Int} {P : W → Sto → Prop} {E : Xc → Sto → Prop}
theorem forced_ok {lot : List Int} {lw : W} (D : Bk st k A own) (hw : lw = .lst (lot.map W.int) ∨ lw = .tup (lot.map W.int)) (hl : ∀ b, (A.wt b).length < 1000) : wp (r_law_forced [.ref k, lw] st)
    (fun v s => v = .bl (A.force lot).2 ∧ Bk s k (A.force lot).1 own ∧ Go own st own s) NoE := by
  have main : ws (forS (fixS (lot.map W.int)) (gName' 2) (sWhile 1000000 (mB (mDin false (mVar 2) (mOp wIx (mVar 0) (mC (.str "waits"))))) (sIf (mNot (mTr (mCall r_law_reached (mCons (mVar 0) (mCons (mVar 2) (mNil)))))) (sRet (mC (.bl false))) (sNx))) (fixS (lot.map W.int)).fuel 0 [some (.ref k), some lw, none] st)
      (fun e s => (A.force lot).2 = true ∧ Bk s k (A.force lot).1 own ∧ Go own st own s) (fun v s => v = .bl (A.force lot).2 ∧ Bk s k (A.force lot).1 own ∧ Go own st own s) (fun _ _ => False) (fun _ _ => False) (fun x _ s => NoE x s) := by
    refine forS_fix (fun i e s => (∃ o, e = [some (.ref k), some lw, o]) ∧ ∃ A1, Bk s k A1 own ∧ Go own st own s ∧ (∀ b, (A1.wt b).length < 1000) ∧ A.force lot = A1.force (lot.drop i)) ⟨⟨none, rfl⟩, A, D, Go.refl, hl, by rw [List.drop_zero]⟩ (fun i w e env s z => ?_) (fun env s z => ?_)
    · obtain ⟨⟨o, rfl⟩, A1, D1, g1, hl1, q1⟩ := z
      rw [List.getElem?_map] at e
      cases e2 : lot[i]? with
      | none => rw [e2] at e; simp at e
      | some b =>
        rw [e2] at e
        simp only [Option.map_some, Option.some.injEq] at e
        subst e
        obtain ⟨hi, hv⟩ := List.getElem?_eq_some_iff.mp e2
        have dr : lot.drop i = b :: lot.drop (i + 1) := by rw [List.drop_eq_getElem_cons hi, hv]
        rw [dr] at q1
        refine ⟨_, _, rfl, ?_⟩
        refine ws_while (fun m e s => e = [some (.ref k), some lw, some (.int b)] ∧ ∃ A2, Bk s k A2 own ∧ Go own st own s ∧ (∀ b, (A2.wt b).length < 1000) ∧ (A2.wt b).length = m ∧ A1.emp b = A2.emp b) (k := (A1.wt b).length) ⟨rfl, A1, D1, g1, hl1, rfl, rfl⟩ (by have := hl1 b; omega) (fun m e s z => ?_)
        obtain ⟨rfl, A2, D2, g2, hl2, rfl, q2⟩ := z
        have so := fun p => bstop_ok (b := b) D2 p
        have go := fun hb p => bstep_ok (b := b) D2 hb p
        have hD := D2
        obtain ⟨l, w, M, D2, rfl⟩ := D2
        simp only [ws_seq, ws_if, ws_set, ws_sub, ws_ret, ws_retN, ws_expr, ws_sNx, ws_for, wp_op, wp_var0, wp_varS, wp_c, wp_mB, wp_toB, wp_tr, wp_trB_bl, wp_trB_non, wp_trB_int, wp_not, wp_and, wp_or, wp_if, wp_mBl, wp_nil, wp_cons, wp_tup, wp_lst, wp_lstS, wp_newL_t, wp_newL_f, wp_chain, wp_call, wp_fn, wp_sl, wp_noPart, wp_part, wp_comp, wp_yes, wp_iL, wp_iA, wp_srcL, wp_srcS, wp_srcAL, wp_srcAT, wp_iR1, wp_iR2, wp_rng1, wp_rng2, wp_iRv, wp_srcRL, wp_srcRT, wp_iEA, wp_srcEL, wp_srcET, wp_add, wp_sub, wp_mul, wp_mod, wp_div, wp_divW, wp_pow18, wp_pow17, wp_pow16, wp_pow30, wp_eqI, wp_neI, wp_cmpI, wp_isN, wp_isNotN, wp_lenL, wp_lenT, wp_abs, wp_int, wp_min2, wp_max2, wp_listL, wp_listT, wp_tupleL, wp_tupleT, wp_ixT0, wp_ixT1, wp_ixL0, wp_neg, wp_ok, wp_srcEL, wp_isB, wp_isNotB, wp_eqB, wp_neB, wp_all, wp_any, wp_slT, wp_slL, wp_rev, wp_revT, wp_revL, wp_disp, wp_pair, wp_pair0, wp_dict0, wipeW, List.foldl_cons, List.foldl_nil, wp_run, List.map, List.length, List.replicate, List.cons_append, List.nil_append, List.append_nil, List.set_cons_zero, List.set_cons_succ, if_true, if_false, Bool.not_true, Bool.not_false, Bool.true_eq_false, Bool.false_eq_true, Nat.reduceAdd, Nat.reduceSub, gName', wp_fldF, ws_fld, wp_lm, wp_din, wp_dget2, wp_dset2, wp_dpop, wp_newD, ws_raise, ws_nxE, ws_par, wp_make, wp_meth, wp_newL_f, wp_newL_t, wp_iT, Option.some.injEq, exists_eq_left', b_w D2.hb, wp_dinR D2.hw keyi, D2.get]
        by_cases h : A2.wt b = []
        · rw [if_pos h]
          simp only [ws_seq, ws_if, ws_set, ws_sub, ws_ret, ws_retN, ws_expr, ws_sNx, ws_for, wp_op, wp_var0, wp_varS, wp_c, wp_mB, wp_toB, wp_tr, wp_trB_bl, wp_trB_non, wp_trB_int, wp_not, wp_and, wp_or, wp_if, wp_mBl, wp_nil, wp_cons, wp_tup, wp_lst, wp_lstS, wp_newL_t, wp_newL_f, wp_chain, wp_call, wp_fn, wp_sl, wp_noPart, wp_part, wp_comp, wp_yes, wp_iL, wp_iA, wp_srcL, wp_srcS, wp_srcAL, wp_srcAT, wp_iR1, wp_iR2, wp_rng1, wp_rng2, wp_iRv, wp_srcRL, wp_srcRT, wp_iEA, wp_srcEL, wp_srcET, wp_add, wp_sub, wp_mul, wp_mod, wp_div, wp_divW, wp_pow18, wp_pow17, wp_pow16, wp_pow30, wp_eqI, wp_neI, wp_cmpI, wp_isN, wp_isNotN, wp_lenL, wp_lenT, wp_abs, wp_int, wp_min2, wp_max2, wp_listL, wp_listT, wp_tupleL, wp_tupleT, wp_ixT0, wp_ixT1, wp_ixL0, wp_neg, wp_ok, wp_srcEL, wp_isB, wp_isNotB, wp_eqB, wp_neB, wp_all, wp_any, wp_slT, wp_slL, wp_rev, wp_revT, wp_revL, wp_disp, wp_pair, wp_pair0, wp_dict0, wipeW, List.foldl_cons, List.foldl_nil, wp_run, List.map, List.length, List.replicate, List.cons_append, List.nil_append, List.append_nil, List.set_cons_zero, List.set_cons_succ, if_true, if_false, Bool.not_true, Bool.not_false, Bool.true_eq_false, Bool.false_eq_true, Nat.reduceAdd, Nat.reduceSub, gName', wp_fldF, ws_fld, wp_lm, wp_din, wp_dget2, wp_dset2, wp_dpop, wp_newD, ws_raise, ws_nxE, ws_par, wp_make, wp_meth, wp_newL_f, wp_newL_t, wp_iT, Option.some.injEq, exists_eq_left', Option.isSome_none]
          refine ⟨⟨some (.int b), by trivial⟩, A2, hD, g2, hl2, ?_⟩
          rw [q1, force_cons (q2.trans (emp_nil h)), if_pos rfl]
        · rw [if_neg h]
          simp only [ws_seq, ws_if, ws_set, ws_sub, ws_ret, ws_retN, ws_expr, ws_sNx, ws_for, wp_op, wp_var0, wp_varS, wp_c, wp_mB, wp_toB, wp_tr, wp_trB_bl, wp_trB_non, wp_trB_int, wp_not, wp_and, wp_or, wp_if, wp_mBl, wp_nil, wp_cons, wp_tup, wp_lst, wp_lstS, wp_newL_t, wp_newL_f, wp_chain, wp_call, wp_fn, wp_sl, wp_noPart, wp_part, wp_comp, wp_yes, wp_iL, wp_iA, wp_srcL, wp_srcS, wp_srcAL, wp_srcAT, wp_iR1, wp_iR2, wp_rng1, wp_rng2, wp_iRv, wp_srcRL, wp_srcRT, wp_iEA, wp_srcEL, wp_srcET, wp_add, wp_sub, wp_mul, wp_mod, wp_div, wp_divW, wp_pow18, wp_pow17, wp_pow16, wp_pow30, wp_eqI, wp_neI, wp_cmpI, wp_isN, wp_isNotN, wp_lenL, wp_lenT, wp_abs, wp_int, wp_min2, wp_max2, wp_listL, wp_listT, wp_tupleL, wp_tupleT, wp_ixT0, wp_ixT1, wp_ixL0, wp_neg, wp_ok, wp_srcEL, wp_isB, wp_isNotB, wp_eqB, wp_neB, wp_all, wp_any, wp_slT, wp_slL, wp_rev, wp_revT, wp_revL, wp_disp, wp_pair, wp_pair0, wp_dict0, wipeW, List.foldl_cons, List.foldl_nil, wp_run, List.map, List.length, List.replicate, List.cons_append, List.nil_append, List.append_nil, List.set_cons_zero, List.set_cons_succ, if_true, if_false, Bool.not_true, Bool.not_false, Bool.true_eq_false, Bool.false_eq_true, Nat.reduceAdd, Nat.reduceSub, gName', wp_fldF, ws_fld, wp_lm, wp_din, wp_dget2, wp_dset2, wp_dpop, wp_newD, ws_raise, ws_nxE, ws_par, wp_make, wp_meth, wp_newL_f, wp_newL_t, wp_iT, Option.some.injEq, exists_eq_left', Option.isSome_some]
          by_cases p : A2.pw = some 0
          · refine wp_no (so p) ?_
            rintro _ _ ⟨rfl, rfl⟩
            have := force_cons (bs := lot.drop (i + 1)) (q2.trans (emp_stop h p))
            rw [if_neg (by decide)] at this
            rw [q1, this]
            simp only [ws_seq, ws_if, ws_set, ws_sub, ws_ret, ws_retN, ws_expr, ws_sNx, ws_for, wp_op, wp_var0, wp_varS, wp_c, wp_mB, wp_toB, wp_tr, wp_trB_bl, wp_trB_non, wp_trB_int, wp_not, wp_and, wp_or, wp_if, wp_mBl, wp_nil, wp_cons, wp_tup, wp_lst, wp_lstS, wp_newL_t, wp_newL_f, wp_chain, wp_call, wp_fn, wp_sl, wp_noPart, wp_part, wp_comp, wp_yes, wp_iL, wp_iA, wp_srcL, wp_srcS, wp_srcAL, wp_srcAT, wp_iR1, wp_iR2, wp_rng1, wp_rng2, wp_iRv, wp_srcRL, wp_srcRT, wp_iEA, wp_srcEL, wp_srcET, wp_add, wp_sub, wp_mul, wp_mod, wp_div, wp_divW, wp_pow18, wp_pow17, wp_pow16, wp_pow30, wp_eqI, wp_neI, wp_cmpI, wp_isN, wp_isNotN, wp_lenL, wp_lenT, wp_abs, wp_int, wp_min2, wp_max2, wp_listL, wp_listT, wp_tupleL, wp_tupleT, wp_ixT0, wp_ixT1, wp_ixL0, wp_neg, wp_ok, wp_srcEL, wp_isB, wp_isNotB, wp_eqB, wp_neB, wp_all, wp_any, wp_slT, wp_slL, wp_rev, wp_revT, wp_revL, wp_disp, wp_pair, wp_pair0, wp_dict0, wipeW, List.foldl_cons, List.foldl_nil, wp_run, List.map, List.length, List.replicate, List.cons_append, List.nil_append, List.append_nil, List.set_cons_zero, List.set_cons_succ, if_true, if_false, Bool.not_true, Bool.not_false, Bool.true_eq_false, Bool.false_eq_true, Nat.reduceAdd, Nat.reduceSub, gName', wp_fldF, ws_fld, wp_lm, wp_din, wp_dget2, wp_dset2, wp_dpop, wp_newD, ws_raise, ws_nxE, ws_par, wp_make, wp_meth, wp_newL_f, wp_newL_t, wp_iT, Option.some.injEq, exists_eq_left']
            exact ⟨by trivial, hD, g2⟩
          · refine wp_no (go h p) ?_
            rintro _ s ⟨rfl, D3, g3⟩
            simp only [ws_seq, ws_if, ws_set, ws_sub, ws_ret, ws_retN, ws_expr, ws_sNx, ws_for, wp_op, wp_var0, wp_varS, wp_c, wp_mB, wp_toB, wp_tr, wp_trB_bl, wp_trB_non, wp_trB_int, wp_not, wp_and, wp_or, wp_if, wp_mBl, wp_nil, wp_cons, wp_tup, wp_lst, wp_lstS, wp_newL_t, wp_newL_f, wp_chain, wp_call, wp_fn, wp_sl, wp_noPart, wp_part, wp_comp, wp_yes, wp_iL, wp_iA, wp_srcL, wp_srcS, wp_srcAL, wp_srcAT, wp_iR1, wp_iR2, wp_rng1, wp_rng2, wp_iRv, wp_srcRL, wp_srcRT, wp_iEA, wp_srcEL, wp_srcET, wp_add, wp_sub, wp_mul, wp_mod, wp_div, wp_divW, wp_pow18, wp_pow17, wp_pow16, wp_pow30, wp_eqI, wp_neI, wp_cmpI, wp_isN, wp_isNotN, wp_lenL, wp_lenT, wp_abs, wp_int, wp_min2, wp_max2, wp_listL, wp_listT, wp_tupleL, wp_tupleT, wp_ixT0, wp_ixT1, wp_ixL0, wp_neg, wp_ok, wp_srcEL, wp_isB, wp_isNotB, wp_eqB, wp_neB, wp_all, wp_any, wp_slT, wp_slL, wp_rev, wp_revT, wp_revL, wp_disp, wp_pair, wp_pair0, wp_dict0, wipeW, List.foldl_cons, List.foldl_nil, wp_run, List.map, List.length, List.replicate, List.cons_append, List.nil_append, List.append_nil, List.set_cons_zero, List.set_cons_succ, if_true, if_false, Bool.not_true, Bool.not_false, Bool.true_eq_false, Bool.false_eq_true, Nat.reduceAdd, Nat.reduceSub, gName', wp_fldF, ws_fld, wp_lm, wp_din, wp_dget2, wp_dset2, wp_dpop, wp_newD, ws_raise, ws_nxE, ws_par, wp_make, wp_meth, wp_newL_f, wp_newL_t, wp_iT, Option.some.injEq, exists_eq_left']
            exact ⟨_, step_dec h, by trivial, A2.step b, D3, g2.trans g3, fun x => Nat.lt_of_le_of_lt step_len (hl2 x), rfl, q2.trans (emp_step h p)⟩
    · obtain ⟨⟨o, rfl⟩, A1, D1, g1, hl1, q1⟩ := z
      rw [List.length_map, List.drop_length] at q1
      rw [q1]
      exact ⟨rfl, D1, g1⟩
  simp only [r_law_forced, m_law_forced]
  rcases hw with rfl | rfl
  · simp only [ws_seq, ws_if, ws_set, ws_sub, ws_ret, ws_retN, ws_expr, ws_sNx, ws_for, wp_op, wp_var0, wp_varS, wp_c, wp_mB, wp_toB, wp_tr, wp_trB_bl, wp_trB_non, wp_trB_int, wp_not, wp_and, wp_or, wp_if, wp_mBl, wp_nil, wp_cons, wp_tup, wp_lst, wp_lstS, wp_newL_t, wp_newL_f, wp_chain, wp_call, wp_fn, wp_sl, wp_noPart, wp_part, wp_comp, wp_yes, wp_iL, wp_iA, wp_srcL, wp_srcS, wp_srcAL, wp_srcAT, wp_iR1, wp_iR2, wp_rng1, wp_rng2, wp_iRv, wp_srcRL, wp_srcRT, wp_iEA, wp_srcEL, wp_srcET, wp_add, wp_sub, wp_mul, wp_mod, wp_div, wp_divW, wp_pow18, wp_pow17, wp_pow16, wp_pow30, wp_eqI, wp_neI, wp_cmpI, wp_isN, wp_isNotN, wp_lenL, wp_lenT, wp_abs, wp_int, wp_min2, wp_max2, wp_listL, wp_listT, wp_tupleL, wp_tupleT, wp_ixT0, wp_ixT1, wp_ixL0, wp_neg, wp_ok, wp_srcEL, wp_isB, wp_isNotB, wp_eqB, wp_neB, wp_all, wp_any, wp_slT, wp_slL, wp_rev, wp_revT, wp_revL, wp_disp, wp_pair, wp_pair0, wp_dict0, wipeW, List.foldl_cons, List.foldl_nil, wp_run, List.map, List.length, List.replicate, List.cons_append, List.nil_append, List.append_nil, List.set_cons_zero, List.set_cons_succ, if_true, if_false, Bool.not_true, Bool.not_false, Bool.true_eq_false, Bool.false_eq_true, Nat.reduceAdd, Nat.reduceSub, gName', wp_fldF, ws_fld, wp_lm, wp_din, wp_dget2, wp_dset2, wp_dpop, wp_newD, ws_raise, ws_nxE, ws_par, wp_make, wp_meth, wp_newL_f, wp_newL_t, wp_iT, Option.some.injEq, exists_eq_left']
    exact ws_nx main fun e s z => ⟨by rw [z.1], z.2⟩
  · simp only [ws_seq, ws_if, ws_set, ws_sub, ws_ret, ws_retN, ws_expr, ws_sNx, ws_for, wp_op, wp_var0, wp_varS, wp_c, wp_mB, wp_toB, wp_tr, wp_trB_bl, wp_trB_non, wp_trB_int, wp_not, wp_and, wp_or, wp_if, wp_mBl, wp_nil, wp_cons, wp_tup, wp_lst, wp_lstS, wp_newL_t, wp_newL_f, wp_chain, wp_call, wp_fn, wp_sl, wp_noPart, wp_part, wp_comp, wp_yes, wp_iL, wp_iA, wp_srcL, wp_srcS, wp_srcAL, wp_srcAT, wp_iR1, wp_iR2, wp_rng1, wp_rng2, wp_iRv, wp_srcRL, wp_srcRT, wp_iEA, wp_srcEL, wp_srcET, wp_add, wp_sub, wp_mul, wp_mod, wp_div, wp_divW, wp_pow18, wp_pow17, wp_pow16, wp_pow30, wp_eqI, wp_neI, wp_cmpI, wp_isN, wp_isNotN, wp_lenL, wp_lenT, wp_abs, wp_int, wp_min2, wp_max2, wp_listL, wp_listT, wp_tupleL, wp_tupleT, wp_ixT0, wp_ixT1, wp_ixL0, wp_neg, wp_ok, wp_srcEL, wp_isB, wp_isNotB, wp_eqB, wp_neB, wp_all, wp_any, wp_slT, wp_slL, wp_rev, wp_revT, wp_revL, wp_disp, wp_pair, wp_pair0, wp_dict0, wipeW, List.foldl_cons, List.foldl_nil, wp_run, List.map, List.length, List.replicate, List.cons_append, List.nil_append, List.append_nil, List.set_cons_zero, List.set_cons_succ, if_true, if_false, Bool.not_true, Bool.not_false, Bool.true_eq_false, Bool.false_eq_true, Nat.reduceAdd, Nat.reduceSub, gName', wp_fldF, ws_fld, wp_lm, wp_din, wp_dget2, wp_dset2, wp_dpop, wp_newD, ws_raise, ws_nxE, ws_par, wp_make, wp_meth, wp_newL_f, wp_newL_t, wp_iT, Option.some.injEq, exists_eq_left']
    exact ws_nx main fun e s z => ⟨by rw [z.1], z.2⟩
theorem bcut_ok (D : Bk st k A own) : wp (r_law_cut [.ref k] st) (fun v s => v = .non ∧ ∃ own', Bk s k A.cut own' ∧ Go own st own' s) NoE := by
  have lt := D.lt
  obtain ⟨l, w, M, D, rfl⟩ := D
  obtain ⟨n1, n2, n3⟩ := D.nr
  have lk := lt k (by simp)
  have ll := lt l (by simp)
  have few : ∀ l w p n, (bkL l w p n).length < sizeLine := fun l w p n => by simp [bkL, sizeLine]
  have e0 : (st ++ [Nd.dk []])[k]? = some (.dk (bkL l w A.pw A.n)) := get_app D.hb
  have p1 := put_d (v := .ref st.length) e0 (keys' (x := "waits")) (few _ _ _ _)
  rw [pt_wa] at p1
  have p2 := put_d (v := pwW none) (get_setp (n := .dk (bkL l st.length A.pw A.n)) e0) (keys' (x := "power")) (few _ _ _ _)
  rw [pt_po, List.set_set] at p2
  simp only [r_law_cut, m_law_cut]
  rw [wp_run]
  simp only [List.map, List.length, List.replicate, List.cons_append, List.nil_append, List.append_nil, Nat.reduceAdd, Nat.reduceSub]
  refine ws_asg (w := .tup [.ref st.length, .non]) (s := st ++ [.dk []]) (s3 := (st ++ [Nd.dk []]).set k (.dk (bkL l st.length none A.n))) (e3 := [some (.ref k)]) rfl ?_ ?_
  · show gAll [gSub' (mVar 0) (mC (.str "waits")), gSub' (mVar 0) (mC (.str "power"))] [.ref st.length, .non] [some (.ref k)] (st ++ [Nd.dk []]) = _
    have v0 : ∀ s, mVar 0 [some (W.ref k)] s = .ok (.ref k) s := fun s => rfl
    have c0 : ∀ x s, mC x [some (W.ref k)] s = .ok x s := fun x s => rfl
    have p2' : wStore (.ref k) (.str "power") .non ((st ++ [Nd.dk []]).set k (.dk (bkL l st.length A.pw A.n))) = some ((st ++ [Nd.dk []]).set k (.dk (bkL l st.length none A.n))) := p2
    simp only [gAll, gSub', v0, c0, p1, p2']
  · refine ⟨by trivial, [k, l, st.length], ⟨l, st.length, [], ⟨get_setp e0, ?_, ?_, fun b r m => absurd m (by simp), fun b m => rfl, List.nodup_nil, ⟨n1, by omega, by omega⟩, D.len, D.uni, D.few⟩, rfl⟩, ?_⟩
    · rw [get_setn n1]; exact get_app D.hl
    · rw [get_setn (by omega)]; exact get_new
    · refine ⟨by simp, fun j n h z => ?_, fun j h => ?_⟩
      · rw [get_setn (fun q : k = j => h (by rw [← q]; simp))]
        exact get_app z
      · simp only [List.mem_cons, List.not_mem_nil, or_false] at h ⊢
        rcases h with h | h | h
        · exact .inl (.inl h)
        · exact .inl (.inr (.inl h))
        · exact .inr (by omega)
end
end Lw
namespace Lw
open PySem L2 Mi
/-- an empty account -/
def Acc.zero (B : Nat) (U : List Int) : Acc := { B := B, U := U, lie := List.replicate B (.tup []), wt := fun _ => [], pw := none, n := 0 }
theorem wp_mulL {x : W} {B : Nat} {st : Sto} {P : W → Sto → Prop} {E : Xc → Sto → Prop} (h : B ≤ 1000) : wp (wMul false (.lst [x]) (.int (B : Int)) st) P E ↔ P (.ref st.length) (st ++ [.lst (List.replicate B x)]) := by
  have : wMul false (.lst [x]) (.int (B : Int)) st = .ok (.ref st.length) (st ++ [.lst (List.replicate B x)]) := by
    have c : (B : Int).natAbs < 2 ^ 63 ∧ [x].length * (B : Int).toNat ≤ sizeLine := by
      refine ⟨by omega, ?_⟩
      show 1 * (B : Int).toNat ≤ 2 ^ 24
      omega
    show (if (B : Int).natAbs < 2 ^ 63 ∧ [x].length * (B : Int).toNat ≤ sizeLine then newL false (List.replicate (B : Int).toNat [x]).flatten st else .stuck) = _
    rw [if_pos c, Int.toNat_natCast, List.flatten_replicate_singleton]
    rfl
  rw [this]; exact Iff.rfl
theorem get_x {s : Sto} {a : Nd} {t : Sto} : (s ++ a :: t)[s.length]? = some a := by simp
section
variable {st : Sto} {B : Nat} {U : List Int}
theorem book_ok (h : B ≤ 1000) (hu : ∀ b ∈ U, 0 ≤ b ∧ b < B) (hf : U.length < 64) : wp (r_law_book [.int (B : Int)] st) (fun v s => ∃ k own, v = .ref k ∧ Bk s k (Acc.zero B U) own ∧ Go [] st own s) NoE := by
  simp only [r_law_book, m_law_book]
  simp only [ws_seq, ws_if, ws_set, ws_sub, ws_ret, ws_retN, ws_expr, ws_sNx, ws_for, wp_op, wp_var0, wp_varS, wp_c, wp_mB, wp_toB, wp_tr, wp_trB_bl, wp_trB_non, wp_trB_int, wp_not, wp_and, wp_or, wp_if, wp_mBl, wp_nil, wp_cons, wp_tup, wp_lst, wp_lstS, wp_newL_t, wp_newL_f, wp_chain, wp_call, wp_fn, wp_sl, wp_noPart, wp_part, wp_comp, wp_yes, wp_iL, wp_iA, wp_srcL, wp_srcS, wp_srcAL, wp_srcAT, wp_iR1, wp_iR2, wp_rng1, wp_rng2, wp_iRv, wp_srcRL, wp_srcRT, wp_iEA, wp_srcEL, wp_srcET, wp_add, wp_sub, wp_mul, wp_mod, wp_div, wp_divW, wp_pow18, wp_pow17, wp_pow16, wp_pow30, wp_eqI, wp_neI, wp_cmpI, wp_isN, wp_isNotN, wp_lenL, wp_lenT, wp_abs, wp_int, wp_min2, wp_max2, wp_listL, wp_listT, wp_tupleL, wp_tupleT, wp_ixT0, wp_ixT1, wp_ixL0, wp_neg, wp_ok, wp_srcEL, wp_isB, wp_isNotB, wp_eqB, wp_neB, wp_all, wp_any, wp_slT, wp_slL, wp_rev, wp_revT, wp_revL, wp_disp, wp_pair, wp_pair0, wp_dict0, wipeW, List.foldl_cons, List.foldl_nil, wp_run, List.map, List.length, List.replicate, List.cons_append, List.nil_append, List.append_nil, List.set_cons_zero, List.set_cons_succ, if_true, if_false, Bool.not_true, Bool.not_false, Bool.true_eq_false, Bool.false_eq_true, Nat.reduceAdd, Nat.reduceSub, gName', wp_fldF, ws_fld, wp_lm, wp_din, wp_dget2, wp_dset2, wp_dpop, wp_newD, ws_raise, ws_nxE, ws_par, wp_make, wp_meth, wp_newL_f, wp_newL_t, wp_iT, Option.some.injEq, exists_eq_left', wp_mulL h, keys', exists_eq_left']
  refine ⟨by simp, st.length + 2, [st.length + 2, st.length, st.length + 1], ?_, ⟨st.length, st.length + 1, [], ⟨?_, ?_, ?_, fun b r m => absurd m (by simp), fun b m => rfl, List.nodup_nil, ⟨by omega, by omega, by omega⟩, by simp [Acc.zero], hu, hf⟩, rfl⟩, ?_⟩
  · simp
  · have : mergeKW [] [((Sum.inr "lying" : Key), W.ref st.length), (Sum.inr "waits", .ref (st ++ [Nd.lst (List.replicate B (.tup []))]).length), (Sum.inr "power", .non), (Sum.inr "reached", .int 0)] = bkL st.length (st.length + 1) none 0 := by
      rw [List.length_append]; rfl
    rw [this]
    have l2 : st.length + 2 = (st ++ [Nd.lst (List.replicate B (.tup []))] ++ [Nd.dk []]).length := by simp
    rw [l2]
    exact get_new
  · show _ = some (Nd.lst (List.replicate B (.tup [])))
    refine get_app (get_app ?_)
    exact get_new
  · have l1 : st.length + 1 = (st ++ [Nd.lst (List.replicate B (.tup []))]).length := by simp
    rw [l1]
    exact get_app get_new
  · refine ⟨by simp, fun j n _ e => get_app (get_app (get_app e)), fun j h => .inr ?_⟩
    simp only [List.mem_cons, List.not_mem_nil, or_false] at h
    rcases h with h | h | h <;> omega
theorem init_ok (h0 : 16 ≤ B) (h1 : B ≤ 600) (hu : ∀ b ∈ U, 0 ≤ b ∧ b < B) (hf : U.length < 64) : wp (r_Disk_init [.ref st.length, .int (B : Int)] (st ++ [.ins 0 []])) (fun v s => v = .non ∧ ∃ own, Dk s st.length (Acc.zero B U) own ∧ Go [] st own s) NoE := by
  have e0 : ∀ (fs : List (Str × W)) (t : Sto), (st ++ (Nd.ins 0 fs :: t))[st.length]? = some (.ins 0 fs) := fun fs t => get_x
  have es : ∀ (fs gs : List (Str × W)) (t : Sto), (st ++ (Nd.ins 0 fs :: t)).set st.length (.ins 0 gs) = st ++ (Nd.ins 0 gs :: t) := fun fs gs t => by simp [List.set_append]
  have f1 := setF_of (f := "contents") (v := .ref (st.length + 1)) (cs := [0]) (e0 [] [Nd.lst (List.replicate B (.tup []))]) rfl (by simp)
  have f2 := setF_of (f := "cached") (v := .ref (st.length + 2)) (cs := [0]) (e0 [("contents", .ref (st.length + 1))] [Nd.lst (List.replicate B (.tup [])), .dk []]) rfl (by simp)
  have f3 := setF_of (f := "left") (v := .non) (cs := [0]) (e0 [("contents", .ref (st.length + 1)), ("cached", .ref (st.length + 2))] [Nd.lst (List.replicate B (.tup [])), .dk []]) rfl (by simp)
  have f4 := setF_of (f := "arrived") (v := .int 0) (cs := [0]) (e0 [("contents", .ref (st.length + 1)), ("cached", .ref (st.length + 2)), ("left", .non)] [Nd.lst (List.replicate B (.tup [])), .dk []]) rfl (by simp)
  rw [es] at f1 f2 f3 f4
  have p1 : putW ("contents" : Str) (.ref (st.length + 1)) [] = ([("contents", .ref (st.length + 1))] : List (Str × W)) := rfl
  have p2 : putW ("cached" : Str) (.ref (st.length + 2)) [("contents", .ref (st.length + 1))] = ([("contents", .ref (st.length + 1)), ("cached", .ref (st.length + 2))] : List (Str × W)) := rfl
  have p3 : putW ("left" : Str) .non [("contents", .ref (st.length + 1)), ("cached", .ref (st.length + 2))] = ([("contents", .ref (st.length + 1)), ("cached", .ref (st.length + 2)), ("left", .non)] : List (Str × W)) := rfl
  have p4 : putW ("arrived" : Str) (.int 0) [("contents", .ref (st.length + 1)), ("cached", .ref (st.length + 2)), ("left", .non)] = fsD (st.length + 1) (st.length + 2) none 0 := rfl
  rw [p1] at f1
  rw [p2] at f2
  rw [p3] at f3
  rw [p4] at f4
  have l1 : (st ++ [Nd.ins 0 []]).length = st.length + 1 := by simp
  have l2 : ∀ (a b : Nd), (st ++ [a, b]).length = st.length + 2 := fun a b => by simp
  have a1 : ∀ x, (st ++ [Nd.ins 0 []]) ++ [x] = st ++ [.ins 0 [], x] := fun x => by simp
  have a2 : ∀ (a b x : Nd), (st ++ [a, b]) ++ [x] = st ++ [a, b, x] := fun a b x => by simp
  have c1 : decide ((16 : Int) ≤ (B : Int)) = true := decide_eq_true (by omega)
  have c2 : decide ((B : Int) ≤ 600) = true := decide_eq_true (by omega)
  simp only [r_Disk_init, m_Disk_init]
  simp only [ws_seq, ws_if, ws_set, ws_sub, ws_ret, ws_retN, ws_expr, ws_sNx, ws_for, wp_op, wp_var0, wp_varS, wp_c, wp_mB, wp_toB, wp_tr, wp_trB_bl, wp_trB_non, wp_trB_int, wp_not, wp_and, wp_or, wp_if, wp_mBl, wp_nil, wp_cons, wp_tup, wp_lst, wp_lstS, wp_newL_t, wp_newL_f, wp_chain, wp_call, wp_fn, wp_sl, wp_noPart, wp_part, wp_comp, wp_yes, wp_iL, wp_iA, wp_srcL, wp_srcS, wp_srcAL, wp_srcAT, wp_iR1, wp_iR2, wp_rng1, wp_rng2, wp_iRv, wp_srcRL, wp_srcRT, wp_iEA, wp_srcEL, wp_srcET, wp_add, wp_sub, wp_mul, wp_mod, wp_div, wp_divW, wp_pow18, wp_pow17, wp_pow16, wp_pow30, wp_eqI, wp_neI, wp_cmpI, wp_isN, wp_isNotN, wp_lenL, wp_lenT, wp_abs, wp_int, wp_min2, wp_max2, wp_listL, wp_listT, wp_tupleL, wp_tupleT, wp_ixT0, wp_ixT1, wp_ixL0, wp_neg, wp_ok, wp_srcEL, wp_isB, wp_isNotB, wp_eqB, wp_neB, wp_all, wp_any, wp_slT, wp_slL, wp_rev, wp_revT, wp_revL, wp_disp, wp_pair, wp_pair0, wp_dict0, wipeW, List.foldl_cons, List.foldl_nil, wp_run, List.map, List.length, List.replicate, List.cons_append, List.nil_append, List.append_nil, List.set_cons_zero, List.set_cons_succ, if_true, if_false, Bool.not_true, Bool.not_false, Bool.true_eq_false, Bool.false_eq_true, Nat.reduceAdd, Nat.reduceSub, gName', wp_fldF, ws_fld, wp_lm, wp_din, wp_dget2, wp_dset2, wp_dpop, wp_newD, ws_raise, ws_nxE, ws_par, wp_make, wp_meth, wp_newL_f, wp_newL_t, wp_iT, Option.some.injEq, exists_eq_left', within_ok, c1, c2, Bool.and_self, wp_mulL (show B ≤ 1000 by omega), l1, a1, wp_setR f1, l2, a2, wp_setR f2, wp_setR f3, wp_setR f4]
  refine ⟨by trivial, [st.length, st.length + 1, st.length + 2], ⟨st.length + 1, st.length + 2, [], ⟨get_x, ?_, ?_, fun b r m => absurd m (by simp), fun b m => rfl, List.nodup_nil, by simp, by simp [Acc.zero], hu, hf⟩, rfl⟩, by simp, fun j n _ e => get_app e, fun j h => .inr ?_⟩
  · simp [Acc.zero]
  · simp [kvL]
  · simp only [List.mem_cons, List.not_mem_nil, or_false] at h
    rcases h with h | h | h <;> omega
end
end Lw
namespace Lw
open PySem L2 Mi
structure Acc.Ok (A : Acc) : Prop where
  lie : ∀ w ∈ A.lie, Cont w
  row : ∀ b, ∀ w ∈ A.wt b, Cont w
  short : ∀ b, (A.wt b).length < 1000
theorem getLastD_mem {xs : List W} (h : xs ≠ []) : xs.getLastD .non ∈ xs := by
  rw [List.getLastD_eq_getLast?, List.getLast?_eq_getLast h]
  exact List.getLast_mem h
section
variable {st s : Sto} {d k : Nat} {A : Acc} {o1 o2 : List Nat} {b : Int} {P : W → Sto → Prop} {E : Xc → Sto → Prop}
theorem at_cont (h : A.Ok) (hl : A.lie.length = A.B) (h0 : 0 ≤ b) (h1 : b < A.B) : Cont (A.at b) := by
  unfold Acc.at
  have : b.toNat < A.lie.length := by omega
  rw [List.getD_eq_getElem?_getD, List.getElem?_eq_getElem this]
  exact h.lie _ (List.getElem_mem this)
theorem top_cont (h : A.Ok) (hl : A.lie.length = A.B) (h0 : 0 ≤ b) (h1 : b < A.B) : Cont (A.top b) := by
  unfold Acc.top
  split
  · exact at_cont h hl h0 h1
  · rename_i z
    exact h.row b _ (getLastD_mem z)
/-- a lock on a dict while a comprehension walks it -/
theorem wp_lock {env : Ev} {m q : M W} {i : Nat} {kvs : List (Key × W)} {v : W} (hm : wp (m env st) (fun o s => o = .ref i ∧ s = st) NoE) (e : st[i]? = some (.dk kvs)) (hk : wp (q env (st.set i (.lk kvs))) (fun w s => w = v ∧ s = st.set i (.lk kvs)) NoE) : wp (mLock m q env st) P E ↔ P v st := by
  obtain ⟨o, s, e1, rfl, rfl⟩ := wp_get hm
  obtain ⟨w, s2, e2, rfl, rfl⟩ := wp_get hk
  have e3 : unlk i (s.set i (.lk kvs)) = some s := by
    simp only [unlk, get_setp e, List.set_set]
    congr 1
    refine List.ext_getElem? fun j => ?_
    by_cases z : i = j
    · subst z; rw [get_setp e]; exact e.symm
    · rw [get_setn z]
  have : mLock m q env s = .ok w s := by
    simp only [mLock, e1, nd_is e, e2, e3]
  rw [this]; exact Iff.rfl
theorem pairs_of : ∀ (M : List (Int × List W)), pairsW (M.map fun p => W.tup [.int p.1, .int p.2.length]) = some (M.map fun p => ((Sum.inl p.1 : Key), W.int p.2.length))
  | [] => rfl
  | p :: M => by simp only [List.map_cons, pairsW, keyi, pairs_of M]
theorem merge_new : ∀ (M acc : List (Key × W)), (M.map (·.1)).Nodup → (∀ x ∈ M, ∀ y ∈ acc, y.1 ≠ x.1) → mergeKW acc M = acc ++ M
  | [], acc, _, _ => by simp [mergeKW]
  | p :: M, acc, nd, h => by
    rw [List.map_cons, List.nodup_cons] at nd
    have e : mergeKW acc (p :: M) = mergeKW (putKW acc p.1 p.2) M := rfl
    rw [e, putKW_new (fun y hy => h p (by simp) y hy), merge_new M _ nd.2 ?_]
    · simp
    · intro x hx y hy
      rcases List.mem_append.mp hy with hy | hy
      · exact h x (by simp [hx]) y hy
      · rw [List.mem_singleton] at hy
        rw [hy]
        intro z
        exact nd.1 (z ▸ List.mem_map.mpr ⟨x, hx, rfl⟩)
theorem lk_f {M : List (Int × List W)} (nd : (M.map (·.1)).Nodup) {b : Int} {r : List W} (h : (b, r) ∈ M) : lkW (M.map fun p => ((Sum.inl p.1 : Key), W.int p.2.length)) (.inl b) = some (.int r.length) := by
  induction M with
  | nil => cases h
  | cons p M ih =>
    rw [List.map_cons, List.nodup_cons] at nd
    simp only [lkW, List.map_cons] at ih ⊢
    rcases List.mem_cons.mp h with e | e
    · subst e
      simp
    · have : p.1 ≠ b := fun z => nd.1 (List.mem_map.mpr ⟨_, e, z.symm⟩)
      rw [List.find?_cons_of_neg (by simpa using this)]
      exact ih nd.2 e
/-- both tell the same rows -/
theorem waits_eq {l w : Nat} {M : List (Int × List W)} (D : BkS st k l w M A) : eqDW A.waits (M.map fun p => ((Sum.inl p.1 : Key), W.int p.2.length)) = true := by
  have e1 : A.waits.length = (M.map fun p => ((Sum.inl p.1 : Key), W.int p.2.length)).length := by
    unfold Acc.waits
    rw [List.length_map, List.length_map, ← D.keys]
    have := (List.mergeSort_perm (M.map (·.1)) fun a b => decide (a ≤ b)).length_eq
    rw [List.length_map] at this
    exact this
  unfold eqDW
  rw [e1, decide_eq_true rfl, Bool.true_and, List.all_eq_true]
  intro p hp
  obtain ⟨b, hb, rfl⟩ := List.mem_map.mp hp
  obtain ⟨_, h⟩ := mem_keys.mp hb
  have := lk_f D.nk (D.has h)
  simp only [this, scalV, Option.bind_some, decide_true]
theorem shows_ok {some1 : List Int} (D : Dk st d A o1) (F : Bk st k A o2) (h : A.Ok) (hs : ∀ b ∈ some1, 0 ≤ b ∧ b < A.B) : wp (r_law_shows [.ref d, .ref k, .lst (some1.map W.int)] st) (fun v s => v = .bl true ∧ Go [] st [] s) NoE := by
  have hl : A.lie.length = A.B := by
    obtain ⟨l, w, M, F, _⟩ := F
    exact F.len
  have D0 := D
  have F0 := F
  obtain ⟨l, w, M, F, rfl⟩ := F
  have nn := F.nr
  simp only [r_law_shows, m_law_shows]
  rw [wp_run]
  simp only [List.map, List.length, List.replicate, List.cons_append, List.nil_append, List.append_nil, Nat.reduceAdd, Nat.reduceSub]
  rw [ws_seq]
  refine ws_nx (N := fun e s => e = [some (.ref d), some (.ref k), some (.lst (some1.map W.int)), none, none, none] ∧ s = st) ?_ ?_
  · simp only [ws_seq, ws_if, ws_set, ws_sub, ws_ret, ws_retN, ws_expr, ws_sNx, ws_for, wp_op, wp_var0, wp_varS, wp_c, wp_mB, wp_toB, wp_tr, wp_trB_bl, wp_trB_non, wp_trB_int, wp_not, wp_and, wp_or, wp_if, wp_mBl, wp_nil, wp_cons, wp_tup, wp_lst, wp_lstS, wp_newL_t, wp_newL_f, wp_chain, wp_call, wp_fn, wp_sl, wp_noPart, wp_part, wp_comp, wp_yes, wp_iL, wp_iA, wp_srcL, wp_srcS, wp_srcAL, wp_srcAT, wp_iR1, wp_iR2, wp_rng1, wp_rng2, wp_iRv, wp_srcRL, wp_srcRT, wp_iEA, wp_srcEL, wp_srcET, wp_add, wp_sub, wp_mul, wp_mod, wp_div, wp_divW, wp_pow18, wp_pow17, wp_pow16, wp_pow30, wp_eqI, wp_neI, wp_cmpI, wp_isN, wp_isNotN, wp_lenL, wp_lenT, wp_abs, wp_int, wp_min2, wp_max2, wp_listL, wp_listT, wp_tupleL, wp_tupleT, wp_ixT0, wp_ixT1, wp_ixL0, wp_neg, wp_ok, wp_srcEL, wp_isB, wp_isNotB, wp_eqB, wp_neB, wp_all, wp_any, wp_slT, wp_slL, wp_rev, wp_revT, wp_revL, wp_disp, wp_pair, wp_pair0, wp_dict0, wipeW, List.foldl_cons, List.foldl_nil, wp_run, List.map, List.length, List.replicate, List.cons_append, List.nil_append, List.append_nil, List.set_cons_zero, List.set_cons_succ, if_true, if_false, Bool.not_true, Bool.not_false, Bool.true_eq_false, Bool.false_eq_true, Nat.reduceAdd, Nat.reduceSub, gName', wp_fldF, ws_fld, wp_lm, wp_din, wp_dget2, wp_dset2, wp_dpop, wp_newD, ws_raise, ws_nxE, ws_par, wp_make, wp_meth, wp_newL_f, wp_newL_t, wp_iT, Option.some.injEq, exists_eq_left', meth_k (m := "blocks") D, blocks_ok D, b_l F.hb, wp_lenR F.hl, wp_neI, F.len, meth_k (m := "reached") D, reached_ok D, b_r F.hb, decide_true]
    exact ⟨by trivial, by trivial⟩
  rintro _ st ⟨rfl, rfl⟩
  rw [ws_seq]
  refine ws_nx (N := fun e s => e = [some (.ref d), some (.ref k), some (.lst (some1.map W.int)), none, none, none] ∧ ∃ x y, s = st ++ [x, y]) ?_ ?_
  · have F1 : (st ++ [Nd.dk A.waits])[k]? = some (.dk (bkL l w A.pw A.n)) := get_app F.hb
    have F2 : (st ++ [Nd.dk A.waits])[w]? = some (.dk (rvL M)) := get_app F.hw
    have lock : ∀ P E, wp (mLock (mOp wIx (mVar 1) (mC (.str "waits"))) (mComp true (iKv (mOp wIx (mVar 1) (mC (.str "waits")))) [3, 5] (.tup [3, 5]) (mYes) (mTup (mCons (mVar 3) (mCons (mFn fLen (mCons (mVar 5) (mNil))) (mNil))))) [some (.ref d), some (.ref k), some (.lst (some1.map W.int)), none, none, none] (st ++ [Nd.dk A.waits])) P E ↔ P (.lst (M.map fun p => W.tup [.int p.1, .int p.2.length])) (st ++ [Nd.dk A.waits]) := by
      intro P E
      refine wp_lock (i := w) (kvs := rvL M) ?_ F2 ?_
      · simp only [ws_seq, ws_if, ws_set, ws_sub, ws_ret, ws_retN, ws_expr, ws_sNx, ws_for, wp_op, wp_var0, wp_varS, wp_c, wp_mB, wp_toB, wp_tr, wp_trB_bl, wp_trB_non, wp_trB_int, wp_not, wp_and, wp_or, wp_if, wp_mBl, wp_nil, wp_cons, wp_tup, wp_lst, wp_lstS, wp_newL_t, wp_newL_f, wp_chain, wp_call, wp_fn, wp_sl, wp_noPart, wp_part, wp_comp, wp_yes, wp_iL, wp_iA, wp_srcL, wp_srcS, wp_srcAL, wp_srcAT, wp_iR1, wp_iR2, wp_rng1, wp_rng2, wp_iRv, wp_srcRL, wp_srcRT, wp_iEA, wp_srcEL, wp_srcET, wp_add, wp_sub, wp_mul, wp_mod, wp_div, wp_divW, wp_pow18, wp_pow17, wp_pow16, wp_pow30, wp_eqI, wp_neI, wp_cmpI, wp_isN, wp_isNotN, wp_lenL, wp_lenT, wp_abs, wp_int, wp_min2, wp_max2, wp_listL, wp_listT, wp_tupleL, wp_tupleT, wp_ixT0, wp_ixT1, wp_ixL0, wp_neg, wp_ok, wp_srcEL, wp_isB, wp_isNotB, wp_eqB, wp_neB, wp_all, wp_any, wp_slT, wp_slL, wp_rev, wp_revT, wp_revL, wp_disp, wp_pair, wp_pair0, wp_dict0, wipeW, List.foldl_cons, List.foldl_nil, wp_run, List.map, List.length, List.replicate, List.cons_append, List.nil_append, List.append_nil, List.set_cons_zero, List.set_cons_succ, if_true, if_false, Bool.not_true, Bool.not_false, Bool.true_eq_false, Bool.false_eq_true, Nat.reduceAdd, Nat.reduceSub, gName', wp_fldF, ws_fld, wp_lm, wp_din, wp_dget2, wp_dset2, wp_dpop, wp_newD, ws_raise, ws_nxE, ws_par, wp_make, wp_meth, wp_newL_f, wp_newL_t, wp_iT, Option.some.injEq, exists_eq_left', b_w F1]
        exact ⟨by trivial, by trivial⟩
      · have G1 : ((st ++ [Nd.dk A.waits]).set w (.lk (rvL M)))[k]? = some (.dk (bkL l w A.pw A.n)) := by rw [get_setn nn.2.1.symm]; exact F1
        have G2 : ((st ++ [Nd.dk A.waits]).set w (.lk (rvL M)))[w]? = some (.lk (rvL M)) := get_setp F2
        have src : wp (iKv (mOp wIx (mVar 1) (mC (.str "waits"))) [some (.ref d), some (.ref k), some (.lst (some1.map W.int)), none, none, none] ((st ++ [Nd.dk A.waits]).set w (.lk (rvL M)))) (fun src s => src = fixS (M.map fun p => W.tup [.int p.1, .lst p.2]) ∧ s = (st ++ [Nd.dk A.waits]).set w (.lk (rvL M))) NoE := by
          unfold iKv
          rw [wp_bind]
          simp only [ws_seq, ws_if, ws_set, ws_sub, ws_ret, ws_retN, ws_expr, ws_sNx, ws_for, wp_op, wp_var0, wp_varS, wp_c, wp_mB, wp_toB, wp_tr, wp_trB_bl, wp_trB_non, wp_trB_int, wp_not, wp_and, wp_or, wp_if, wp_mBl, wp_nil, wp_cons, wp_tup, wp_lst, wp_lstS, wp_newL_t, wp_newL_f, wp_chain, wp_call, wp_fn, wp_sl, wp_noPart, wp_part, wp_comp, wp_yes, wp_iL, wp_iA, wp_srcL, wp_srcS, wp_srcAL, wp_srcAT, wp_iR1, wp_iR2, wp_rng1, wp_rng2, wp_iRv, wp_srcRL, wp_srcRT, wp_iEA, wp_srcEL, wp_srcET, wp_add, wp_sub, wp_mul, wp_mod, wp_div, wp_divW, wp_pow18, wp_pow17, wp_pow16, wp_pow30, wp_eqI, wp_neI, wp_cmpI, wp_isN, wp_isNotN, wp_lenL, wp_lenT, wp_abs, wp_int, wp_min2, wp_max2, wp_listL, wp_listT, wp_tupleL, wp_tupleT, wp_ixT0, wp_ixT1, wp_ixL0, wp_neg, wp_ok, wp_srcEL, wp_isB, wp_isNotB, wp_eqB, wp_neB, wp_all, wp_any, wp_slT, wp_slL, wp_rev, wp_revT, wp_revL, wp_disp, wp_pair, wp_pair0, wp_dict0, wipeW, List.foldl_cons, List.foldl_nil, wp_run, List.map, List.length, List.replicate, List.cons_append, List.nil_append, List.append_nil, List.set_cons_zero, List.set_cons_succ, if_true, if_false, Bool.not_true, Bool.not_false, Bool.true_eq_false, Bool.false_eq_true, Nat.reduceAdd, Nat.reduceSub, gName', wp_fldF, ws_fld, wp_lm, wp_din, wp_dget2, wp_dset2, wp_dpop, wp_newD, ws_raise, ws_nxE, ws_par, wp_make, wp_meth, wp_newL_f, wp_newL_t, wp_iT, Option.some.injEq, exists_eq_left', b_w G1]
          have : lkOf ((st ++ [Nd.dk A.waits]).set w (.lk (rvL M))) (.ref w) = some (w, rvL M) := by simp only [lkOf, G2]
          rw [this]
          refine ⟨?_, rfl⟩
          simp only [rvL, List.map_map]
          rfl
        obtain ⟨sc, s2, e3, rfl, rfl⟩ := wp_get src
        rw [wp_comp, e3]
        have hM := F.fewM
        refine compS_map (ys := M) (enc := fun p => W.tup [.int p.1, .lst p.2]) (fun _ => true) (fun p => W.tup [.int p.1, .int p.2.length]) (by simp only [sizeLine]; omega) (fun y hy => ⟨_, rfl, by simp only [ws_seq, ws_if, ws_set, ws_sub, ws_ret, ws_retN, ws_expr, ws_sNx, ws_for, wp_op, wp_var0, wp_varS, wp_c, wp_mB, wp_toB, wp_tr, wp_trB_bl, wp_trB_non, wp_trB_int, wp_not, wp_and, wp_or, wp_if, wp_mBl, wp_nil, wp_cons, wp_tup, wp_lst, wp_lstS, wp_newL_t, wp_newL_f, wp_chain, wp_call, wp_fn, wp_sl, wp_noPart, wp_part, wp_comp, wp_yes, wp_iL, wp_iA, wp_srcL, wp_srcS, wp_srcAL, wp_srcAT, wp_iR1, wp_iR2, wp_rng1, wp_rng2, wp_iRv, wp_srcRL, wp_srcRT, wp_iEA, wp_srcEL, wp_srcET, wp_add, wp_sub, wp_mul, wp_mod, wp_div, wp_divW, wp_pow18, wp_pow17, wp_pow16, wp_pow30, wp_eqI, wp_neI, wp_cmpI, wp_isN, wp_isNotN, wp_lenL, wp_lenT, wp_abs, wp_int, wp_min2, wp_max2, wp_listL, wp_listT, wp_tupleL, wp_tupleT, wp_ixT0, wp_ixT1, wp_ixL0, wp_neg, wp_ok, wp_srcEL, wp_isB, wp_isNotB, wp_eqB, wp_neB, wp_all, wp_any, wp_slT, wp_slL, wp_rev, wp_revT, wp_revL, wp_disp, wp_pair, wp_pair0, wp_dict0, wipeW, List.foldl_cons, List.foldl_nil, wp_run, List.map, List.length, List.replicate, List.cons_append, List.nil_append, List.append_nil, List.set_cons_zero, List.set_cons_succ, if_true, if_false, Bool.not_true, Bool.not_false, Bool.true_eq_false, Bool.false_eq_true, Nat.reduceAdd, Nat.reduceSub, gName', wp_fldF, ws_fld, wp_lm, wp_din, wp_dget2, wp_dset2, wp_dpop, wp_newD, ws_raise, ws_nxE, ws_par, wp_make, wp_meth, wp_newL_f, wp_newL_t, wp_iT, Option.some.injEq, exists_eq_left']; exact ⟨by trivial, by trivial⟩, fun _ => by
          simp only [ws_seq, ws_if, ws_set, ws_sub, ws_ret, ws_retN, ws_expr, ws_sNx, ws_for, wp_op, wp_var0, wp_varS, wp_c, wp_mB, wp_toB, wp_tr, wp_trB_bl, wp_trB_non, wp_trB_int, wp_not, wp_and, wp_or, wp_if, wp_mBl, wp_nil, wp_cons, wp_tup, wp_lst, wp_lstS, wp_newL_t, wp_newL_f, wp_chain, wp_call, wp_fn, wp_sl, wp_noPart, wp_part, wp_comp, wp_yes, wp_iL, wp_iA, wp_srcL, wp_srcS, wp_srcAL, wp_srcAT, wp_iR1, wp_iR2, wp_rng1, wp_rng2, wp_iRv, wp_srcRL, wp_srcRT, wp_iEA, wp_srcEL, wp_srcET, wp_add, wp_sub, wp_mul, wp_mod, wp_div, wp_divW, wp_pow18, wp_pow17, wp_pow16, wp_pow30, wp_eqI, wp_neI, wp_cmpI, wp_isN, wp_isNotN, wp_lenL, wp_lenT, wp_abs, wp_int, wp_min2, wp_max2, wp_listL, wp_listT, wp_tupleL, wp_tupleT, wp_ixT0, wp_ixT1, wp_ixL0, wp_neg, wp_ok, wp_srcEL, wp_isB, wp_isNotB, wp_eqB, wp_neB, wp_all, wp_any, wp_slT, wp_slL, wp_rev, wp_revT, wp_revL, wp_disp, wp_pair, wp_pair0, wp_dict0, wipeW, List.foldl_cons, List.foldl_nil, wp_run, List.map, List.length, List.replicate, List.cons_append, List.nil_append, List.append_nil, List.set_cons_zero, List.set_cons_succ, if_true, if_false, Bool.not_true, Bool.not_false, Bool.true_eq_false, Bool.false_eq_true, Nat.reduceAdd, Nat.reduceSub, gName', wp_fldF, ws_fld, wp_lm, wp_din, wp_dget2, wp_dset2, wp_dpop, wp_newD, ws_raise, ws_nxE, ws_par, wp_make, wp_meth, wp_newL_f, wp_newL_t, wp_iT, Option.some.injEq, exists_eq_left']
          exact ⟨by trivial, by trivial⟩⟩) ?_
        rw [List.filter_eq_self.mpr (by simp)]
        exact ⟨rfl, rfl⟩
    have dict : ∀ P E, wp (fDict [.lst (M.map fun p => W.tup [.int p.1, .int p.2.length])] (st ++ [Nd.dk A.waits])) P E ↔ P (.ref (st.length + 1)) (st ++ [.dk A.waits, .dk (M.map fun p => ((Sum.inl p.1 : Key), W.int p.2.length))]) := by
      intro P E
      have nd : ((M.map fun p => ((Sum.inl p.1 : Key), W.int p.2.length)).map (·.1)).Nodup := by
        rw [List.map_map]
        have : ((fun x : Key × W => x.1) ∘ fun p : Int × List W => ((Sum.inl p.1 : Key), W.int p.2.length)) = Sum.inl ∘ fun p : Int × List W => p.1 := rfl
        rw [this, ← List.map_map]
        exact (F.nk.map Sum.inl fun a b z q => z (by simpa using q))
      have : fDict [.lst (M.map fun p => W.tup [.int p.1, .int p.2.length])] (st ++ [Nd.dk A.waits]) = .ok (.ref (st.length + 1)) (st ++ [.dk A.waits, .dk (M.map fun p => ((Sum.inl p.1 : Key), W.int p.2.length))]) := by
        simp only [fDict, dkOf, seqL, pairs_of, newD, merge_new _ [] nd (fun x _ y hy => absurd hy (by simp)), List.nil_append]
        simp
      rw [this]; exact Iff.rfl
    have ne : ∀ P E, wp (wEqD false (.ref st.length) (.ref (st.length + 1)) (st ++ [.dk A.waits, .dk (M.map fun p => ((Sum.inl p.1 : Key), W.int p.2.length))])) P E ↔ P (.bl false) (st ++ [.dk A.waits, .dk (M.map fun p => ((Sum.inl p.1 : Key), W.int p.2.length))]) := by
      intro P E
      have g1 : (st ++ [Nd.dk A.waits, .dk (M.map fun p => ((Sum.inl p.1 : Key), W.int p.2.length))])[st.length]? = some (.dk A.waits) := by simp
      have g2 : (st ++ [Nd.dk A.waits, .dk (M.map fun p => ((Sum.inl p.1 : Key), W.int p.2.length))])[st.length + 1]? = some (.dk (M.map fun p => ((Sum.inl p.1 : Key), W.int p.2.length))) := by simp
      simp only [wEqD, nd_is g1, nd_is g2, waits_eq F, if_true]
      exact Iff.rfl
    simp only [ws_seq, ws_if, ws_set, ws_sub, ws_ret, ws_retN, ws_expr, ws_sNx, ws_for, wp_op, wp_var0, wp_varS, wp_c, wp_mB, wp_toB, wp_tr, wp_trB_bl, wp_trB_non, wp_trB_int, wp_not, wp_and, wp_or, wp_if, wp_mBl, wp_nil, wp_cons, wp_tup, wp_lst, wp_lstS, wp_newL_t, wp_newL_f, wp_chain, wp_call, wp_fn, wp_sl, wp_noPart, wp_part, wp_comp, wp_yes, wp_iL, wp_iA, wp_srcL, wp_srcS, wp_srcAL, wp_srcAT, wp_iR1, wp_iR2, wp_rng1, wp_rng2, wp_iRv, wp_srcRL, wp_srcRT, wp_iEA, wp_srcEL, wp_srcET, wp_add, wp_sub, wp_mul, wp_mod, wp_div, wp_divW, wp_pow18, wp_pow17, wp_pow16, wp_pow30, wp_eqI, wp_neI, wp_cmpI, wp_isN, wp_isNotN, wp_lenL, wp_lenT, wp_abs, wp_int, wp_min2, wp_max2, wp_listL, wp_listT, wp_tupleL, wp_tupleT, wp_ixT0, wp_ixT1, wp_ixL0, wp_neg, wp_ok, wp_srcEL, wp_isB, wp_isNotB, wp_eqB, wp_neB, wp_all, wp_any, wp_slT, wp_slL, wp_rev, wp_revT, wp_revL, wp_disp, wp_pair, wp_pair0, wp_dict0, wipeW, List.foldl_cons, List.foldl_nil, wp_run, List.map, List.length, List.replicate, List.cons_append, List.nil_append, List.append_nil, List.set_cons_zero, List.set_cons_succ, if_true, if_false, Bool.not_true, Bool.not_false, Bool.true_eq_false, Bool.false_eq_true, Nat.reduceAdd, Nat.reduceSub, gName', wp_fldF, ws_fld, wp_lm, wp_din, wp_dget2, wp_dset2, wp_dpop, wp_newD, ws_raise, ws_nxE, ws_par, wp_make, wp_meth, wp_newL_f, wp_newL_t, wp_iT, Option.some.injEq, exists_eq_left', meth_k (m := "waiting") D, waiting_ok D, lock, dict, ne]
    exact ⟨by trivial, _, _, rfl⟩
  rintro _ _ ⟨rfl, x, y, rfl⟩
  have go : Go [] st [] (st ++ [x, y]) := ⟨by simp, fun j n _ e => get_app e, fun j h => by cases h⟩
  have D1 := D0.go go (fun j _ => by simp)
  have F1 := F0.go go (fun j _ => by simp)
  generalize st ++ [x, y] = s at go D1 F1
  obtain ⟨l, w, M, F1, _⟩ := F1
  rw [ws_seq]
  refine ws_nx (N := fun e s' => s' = s) ?_ ?_
  · simp only [ws_seq, ws_if, ws_set, ws_sub, ws_ret, ws_retN, ws_expr, ws_sNx, ws_for, wp_op, wp_var0, wp_varS, wp_c, wp_mB, wp_toB, wp_tr, wp_trB_bl, wp_trB_non, wp_trB_int, wp_not, wp_and, wp_or, wp_if, wp_mBl, wp_nil, wp_cons, wp_tup, wp_lst, wp_lstS, wp_newL_t, wp_newL_f, wp_chain, wp_call, wp_fn, wp_sl, wp_noPart, wp_part, wp_comp, wp_yes, wp_iL, wp_iA, wp_srcL, wp_srcS, wp_srcAL, wp_srcAT, wp_iR1, wp_iR2, wp_rng1, wp_rng2, wp_iRv, wp_srcRL, wp_srcRT, wp_iEA, wp_srcEL, wp_srcET, wp_add, wp_sub, wp_mul, wp_mod, wp_div, wp_divW, wp_pow18, wp_pow17, wp_pow16, wp_pow30, wp_eqI, wp_neI, wp_cmpI, wp_isN, wp_isNotN, wp_lenL, wp_lenT, wp_abs, wp_int, wp_min2, wp_max2, wp_listL, wp_listT, wp_tupleL, wp_tupleT, wp_ixT0, wp_ixT1, wp_ixL0, wp_neg, wp_ok, wp_srcEL, wp_isB, wp_isNotB, wp_eqB, wp_neB, wp_all, wp_any, wp_slT, wp_slL, wp_rev, wp_revT, wp_revL, wp_disp, wp_pair, wp_pair0, wp_dict0, wipeW, List.foldl_cons, List.foldl_nil, wp_run, List.map, List.length, List.replicate, List.cons_append, List.nil_append, List.append_nil, List.set_cons_zero, List.set_cons_succ, if_true, if_false, Bool.not_true, Bool.not_false, Bool.true_eq_false, Bool.false_eq_true, Nat.reduceAdd, Nat.reduceSub, gName', wp_fldF, ws_fld, wp_lm, wp_din, wp_dget2, wp_dset2, wp_dpop, wp_newD, ws_raise, ws_nxE, ws_par, wp_make, wp_meth, wp_newL_f, wp_newL_t, wp_iT, Option.some.injEq, exists_eq_left']
    refine forS_fix (fun i e s' => s' = s ∧ ∃ u v, e = [some (.ref d), some (.ref k), some (.lst (some1.map W.int)), u, v, none]) ⟨rfl, none, none, rfl⟩ (fun i z e env s' q => ?_) (fun env s' q => q.1)
    obtain ⟨rfl, u, v, rfl⟩ := q
    rw [List.getElem?_map] at e
    cases e2 : some1[i]? with
    | none => rw [e2] at e; simp at e
    | some b =>
      rw [e2] at e
      simp only [Option.map_some, Option.some.injEq] at e
      subst e
      obtain ⟨h0, h1⟩ := hs b (List.mem_of_getElem? e2)
      have i1 : (b : Int) < (A.lie.length : Int) := by rw [hl]; exact h1
      have c1 := at_cont h hl h0 h1
      have c2 := top_cont h hl h0 h1
      refine ⟨_, _, rfl, ?_⟩
      rw [ws_seq]
      refine ws_nx (N := fun e t => t = s' ∧ e = [some (.ref d), some (.ref k), some (.lst (some1.map W.int)), some (.int b), some (A.top b), none]) ?_ ?_
      · simp only [ws_seq, ws_if, ws_set, ws_sub, ws_ret, ws_retN, ws_expr, ws_sNx, ws_for, wp_op, wp_var0, wp_varS, wp_c, wp_mB, wp_toB, wp_tr, wp_trB_bl, wp_trB_non, wp_trB_int, wp_not, wp_and, wp_or, wp_if, wp_mBl, wp_nil, wp_cons, wp_tup, wp_lst, wp_lstS, wp_newL_t, wp_newL_f, wp_chain, wp_call, wp_fn, wp_sl, wp_noPart, wp_part, wp_comp, wp_yes, wp_iL, wp_iA, wp_srcL, wp_srcS, wp_srcAL, wp_srcAT, wp_iR1, wp_iR2, wp_rng1, wp_rng2, wp_iRv, wp_srcRL, wp_srcRT, wp_iEA, wp_srcEL, wp_srcET, wp_add, wp_sub, wp_mul, wp_mod, wp_div, wp_divW, wp_pow18, wp_pow17, wp_pow16, wp_pow30, wp_eqI, wp_neI, wp_cmpI, wp_isN, wp_isNotN, wp_lenL, wp_lenT, wp_abs, wp_int, wp_min2, wp_max2, wp_listL, wp_listT, wp_tupleL, wp_tupleT, wp_ixT0, wp_ixT1, wp_ixL0, wp_neg, wp_ok, wp_srcEL, wp_isB, wp_isNotB, wp_eqB, wp_neB, wp_all, wp_any, wp_slT, wp_slL, wp_rev, wp_revT, wp_revL, wp_disp, wp_pair, wp_pair0, wp_dict0, wipeW, List.foldl_cons, List.foldl_nil, wp_run, List.map, List.length, List.replicate, List.cons_append, List.nil_append, List.append_nil, List.set_cons_zero, List.set_cons_succ, if_true, if_false, Bool.not_true, Bool.not_false, Bool.true_eq_false, Bool.false_eq_true, Nat.reduceAdd, Nat.reduceSub, gName', wp_fldF, ws_fld, wp_lm, wp_din, wp_dget2, wp_dset2, wp_dpop, wp_newD, ws_raise, ws_nxE, ws_par, wp_make, wp_meth, wp_newL_f, wp_newL_t, wp_iT, Option.some.injEq, exists_eq_left', b_w F1.hb, wp_dinR F1.hw keyi, F1.get]
        unfold Acc.top
        by_cases q : A.wt b = []
        · rw [if_pos q, if_pos q]
          simp only [ws_seq, ws_if, ws_set, ws_sub, ws_ret, ws_retN, ws_expr, ws_sNx, ws_for, wp_op, wp_var0, wp_varS, wp_c, wp_mB, wp_toB, wp_tr, wp_trB_bl, wp_trB_non, wp_trB_int, wp_not, wp_and, wp_or, wp_if, wp_mBl, wp_nil, wp_cons, wp_tup, wp_lst, wp_lstS, wp_newL_t, wp_newL_f, wp_chain, wp_call, wp_fn, wp_sl, wp_noPart, wp_part, wp_comp, wp_yes, wp_iL, wp_iA, wp_srcL, wp_srcS, wp_srcAL, wp_srcAT, wp_iR1, wp_iR2, wp_rng1, wp_rng2, wp_iRv, wp_srcRL, wp_srcRT, wp_iEA, wp_srcEL, wp_srcET, wp_add, wp_sub, wp_mul, wp_mod, wp_div, wp_divW, wp_pow18, wp_pow17, wp_pow16, wp_pow30, wp_eqI, wp_neI, wp_cmpI, wp_isN, wp_isNotN, wp_lenL, wp_lenT, wp_abs, wp_int, wp_min2, wp_max2, wp_listL, wp_listT, wp_tupleL, wp_tupleT, wp_ixT0, wp_ixT1, wp_ixL0, wp_neg, wp_ok, wp_srcEL, wp_isB, wp_isNotB, wp_eqB, wp_neB, wp_all, wp_any, wp_slT, wp_slL, wp_rev, wp_revT, wp_revL, wp_disp, wp_pair, wp_pair0, wp_dict0, wipeW, List.foldl_cons, List.foldl_nil, wp_run, List.map, List.length, List.replicate, List.cons_append, List.nil_append, List.append_nil, List.set_cons_zero, List.set_cons_succ, if_true, if_false, Bool.not_true, Bool.not_false, Bool.true_eq_false, Bool.false_eq_true, Nat.reduceAdd, Nat.reduceSub, gName', wp_fldF, ws_fld, wp_lm, wp_din, wp_dget2, wp_dset2, wp_dpop, wp_newD, ws_raise, ws_nxE, ws_par, wp_make, wp_meth, wp_newL_f, wp_newL_t, wp_iT, Option.some.injEq, exists_eq_left', Option.isSome_none, b_l F1.hb, wp_ixAt F1.hl h0 i1]
          exact ⟨by trivial, by trivial⟩
        · rw [if_neg q, if_neg q]
          have g := F1.get b
          rw [if_neg q] at g
          simp only [ws_seq, ws_if, ws_set, ws_sub, ws_ret, ws_retN, ws_expr, ws_sNx, ws_for, wp_op, wp_var0, wp_varS, wp_c, wp_mB, wp_toB, wp_tr, wp_trB_bl, wp_trB_non, wp_trB_int, wp_not, wp_and, wp_or, wp_if, wp_mBl, wp_nil, wp_cons, wp_tup, wp_lst, wp_lstS, wp_newL_t, wp_newL_f, wp_chain, wp_call, wp_fn, wp_sl, wp_noPart, wp_part, wp_comp, wp_yes, wp_iL, wp_iA, wp_srcL, wp_srcS, wp_srcAL, wp_srcAT, wp_iR1, wp_iR2, wp_rng1, wp_rng2, wp_iRv, wp_srcRL, wp_srcRT, wp_iEA, wp_srcEL, wp_srcET, wp_add, wp_sub, wp_mul, wp_mod, wp_div, wp_divW, wp_pow18, wp_pow17, wp_pow16, wp_pow30, wp_eqI, wp_neI, wp_cmpI, wp_isN, wp_isNotN, wp_lenL, wp_lenT, wp_abs, wp_int, wp_min2, wp_max2, wp_listL, wp_listT, wp_tupleL, wp_tupleT, wp_ixT0, wp_ixT1, wp_ixL0, wp_neg, wp_ok, wp_srcEL, wp_isB, wp_isNotB, wp_eqB, wp_neB, wp_all, wp_any, wp_slT, wp_slL, wp_rev, wp_revT, wp_revL, wp_disp, wp_pair, wp_pair0, wp_dict0, wipeW, List.foldl_cons, List.foldl_nil, wp_run, List.map, List.length, List.replicate, List.cons_append, List.nil_append, List.append_nil, List.set_cons_zero, List.set_cons_succ, if_true, if_false, Bool.not_true, Bool.not_false, Bool.true_eq_false, Bool.false_eq_true, Nat.reduceAdd, Nat.reduceSub, gName', wp_fldF, ws_fld, wp_lm, wp_din, wp_dget2, wp_dset2, wp_dpop, wp_newD, ws_raise, ws_nxE, ws_par, wp_make, wp_meth, wp_newL_f, wp_newL_t, wp_iT, Option.some.injEq, exists_eq_left', Option.isSome_some, b_w F1.hb, wp_ixD F1.hw keyi g, wp_lastL q]
          exact ⟨by trivial, by trivial⟩
      · rintro _ s' ⟨rfl, rfl⟩
        simp only [ws_seq, ws_if, ws_set, ws_sub, ws_ret, ws_retN, ws_expr, ws_sNx, ws_for, wp_op, wp_var0, wp_varS, wp_c, wp_mB, wp_toB, wp_tr, wp_trB_bl, wp_trB_non, wp_trB_int, wp_not, wp_and, wp_or, wp_if, wp_mBl, wp_nil, wp_cons, wp_tup, wp_lst, wp_lstS, wp_newL_t, wp_newL_f, wp_chain, wp_call, wp_fn, wp_sl, wp_noPart, wp_part, wp_comp, wp_yes, wp_iL, wp_iA, wp_srcL, wp_srcS, wp_srcAL, wp_srcAT, wp_iR1, wp_iR2, wp_rng1, wp_rng2, wp_iRv, wp_srcRL, wp_srcRT, wp_iEA, wp_srcEL, wp_srcET, wp_add, wp_sub, wp_mul, wp_mod, wp_div, wp_divW, wp_pow18, wp_pow17, wp_pow16, wp_pow30, wp_eqI, wp_neI, wp_cmpI, wp_isN, wp_isNotN, wp_lenL, wp_lenT, wp_abs, wp_int, wp_min2, wp_max2, wp_listL, wp_listT, wp_tupleL, wp_tupleT, wp_ixT0, wp_ixT1, wp_ixL0, wp_neg, wp_ok, wp_srcEL, wp_isB, wp_isNotB, wp_eqB, wp_neB, wp_all, wp_any, wp_slT, wp_slL, wp_rev, wp_revT, wp_revL, wp_disp, wp_pair, wp_pair0, wp_dict0, wipeW, List.foldl_cons, List.foldl_nil, wp_run, List.map, List.length, List.replicate, List.cons_append, List.nil_append, List.append_nil, List.set_cons_zero, List.set_cons_succ, if_true, if_false, Bool.not_true, Bool.not_false, Bool.true_eq_false, Bool.false_eq_true, Nat.reduceAdd, Nat.reduceSub, gName', wp_fldF, ws_fld, wp_lm, wp_din, wp_dget2, wp_dset2, wp_dpop, wp_newD, ws_raise, ws_nxE, ws_par, wp_make, wp_meth, wp_newL_f, wp_newL_t, wp_iT, Option.some.injEq, exists_eq_left', meth_k (m := "read") D1, read_ok D1 h0 h1, ne_same c2, meth_k (m := "lying") D1, lying_ok D1 h0 h1, b_l F1.hb, wp_ixAt F1.hl h0 i1]
        rw [show A.lie.getD b.toNat .non = A.at b from rfl, ne_same c1]
        simp only [ws_seq, ws_if, ws_set, ws_sub, ws_ret, ws_retN, ws_expr, ws_sNx, ws_for, wp_op, wp_var0, wp_varS, wp_c, wp_mB, wp_toB, wp_tr, wp_trB_bl, wp_trB_non, wp_trB_int, wp_not, wp_and, wp_or, wp_if, wp_mBl, wp_nil, wp_cons, wp_tup, wp_lst, wp_lstS, wp_newL_t, wp_newL_f, wp_chain, wp_call, wp_fn, wp_sl, wp_noPart, wp_part, wp_comp, wp_yes, wp_iL, wp_iA, wp_srcL, wp_srcS, wp_srcAL, wp_srcAT, wp_iR1, wp_iR2, wp_rng1, wp_rng2, wp_iRv, wp_srcRL, wp_srcRT, wp_iEA, wp_srcEL, wp_srcET, wp_add, wp_sub, wp_mul, wp_mod, wp_div, wp_divW, wp_pow18, wp_pow17, wp_pow16, wp_pow30, wp_eqI, wp_neI, wp_cmpI, wp_isN, wp_isNotN, wp_lenL, wp_lenT, wp_abs, wp_int, wp_min2, wp_max2, wp_listL, wp_listT, wp_tupleL, wp_tupleT, wp_ixT0, wp_ixT1, wp_ixL0, wp_neg, wp_ok, wp_srcEL, wp_isB, wp_isNotB, wp_eqB, wp_neB, wp_all, wp_any, wp_slT, wp_slL, wp_rev, wp_revT, wp_revL, wp_disp, wp_pair, wp_pair0, wp_dict0, wipeW, List.foldl_cons, List.foldl_nil, wp_run, List.map, List.length, List.replicate, List.cons_append, List.nil_append, List.append_nil, List.set_cons_zero, List.set_cons_succ, if_true, if_false, Bool.not_true, Bool.not_false, Bool.true_eq_false, Bool.false_eq_true, Nat.reduceAdd, Nat.reduceSub, gName', wp_fldF, ws_fld, wp_lm, wp_din, wp_dget2, wp_dset2, wp_dpop, wp_newD, ws_raise, ws_nxE, ws_par, wp_make, wp_meth, wp_newL_f, wp_newL_t, wp_iT, Option.some.injEq, exists_eq_left']
        exact ⟨by trivial, _, _, rfl⟩
  · rintro e _ rfl
    simp only [ws_seq, ws_if, ws_set, ws_sub, ws_ret, ws_retN, ws_expr, ws_sNx, ws_for, wp_op, wp_var0, wp_varS, wp_c, wp_mB, wp_toB, wp_tr, wp_trB_bl, wp_trB_non, wp_trB_int, wp_not, wp_and, wp_or, wp_if, wp_mBl, wp_nil, wp_cons, wp_tup, wp_lst, wp_lstS, wp_newL_t, wp_newL_f, wp_chain, wp_call, wp_fn, wp_sl, wp_noPart, wp_part, wp_comp, wp_yes, wp_iL, wp_iA, wp_srcL, wp_srcS, wp_srcAL, wp_srcAT, wp_iR1, wp_iR2, wp_rng1, wp_rng2, wp_iRv, wp_srcRL, wp_srcRT, wp_iEA, wp_srcEL, wp_srcET, wp_add, wp_sub, wp_mul, wp_mod, wp_div, wp_divW, wp_pow18, wp_pow17, wp_pow16, wp_pow30, wp_eqI, wp_neI, wp_cmpI, wp_isN, wp_isNotN, wp_lenL, wp_lenT, wp_abs, wp_int, wp_min2, wp_max2, wp_listL, wp_listT, wp_tupleL, wp_tupleT, wp_ixT0, wp_ixT1, wp_ixL0, wp_neg, wp_ok, wp_srcEL, wp_isB, wp_isNotB, wp_eqB, wp_neB, wp_all, wp_any, wp_slT, wp_slL, wp_rev, wp_revT, wp_revL, wp_disp, wp_pair, wp_pair0, wp_dict0, wipeW, List.foldl_cons, List.foldl_nil, wp_run, List.map, List.length, List.replicate, List.cons_append, List.nil_append, List.append_nil, List.set_cons_zero, List.set_cons_succ, if_true, if_false, Bool.not_true, Bool.not_false, Bool.true_eq_false, Bool.false_eq_true, Nat.reduceAdd, Nat.reduceSub, gName', wp_fldF, ws_fld, wp_lm, wp_din, wp_dget2, wp_dset2, wp_dpop, wp_newD, ws_raise, ws_nxE, ws_par, wp_make, wp_meth, wp_newL_f, wp_newL_t, wp_iT, Option.some.injEq, exists_eq_left']
    exact ⟨by trivial, go⟩
end
end Lw
namespace Lw
open PySem L2 Mi
/-! what stands from step to step -/
def Closed (I : Acc → Prop) : Prop := ∀ A b, I A → A.wt b ≠ [] → A.pw ≠ some 0 → I (A.step b)
theorem drain_all {I : Acc → Prop} (h : Closed I) {b : Int} : ∀ (m : Nat) (A : Acc), (A.wt b).length = m → I A → I (A.emp b).1 ∧ ((A.emp b).2 = true → ((A.emp b).1.wt b = [] ∧ ∀ y, y ≠ b → (A.emp b).1.wt y = A.wt y)) ∧ ((A.emp b).2 = false → (A.emp b).1.pw = some 0)
  | 0, A, e, i => by
    have e : A.wt b = [] := List.eq_nil_of_length_eq_zero e
    rw [emp_nil e]
    exact ⟨i, fun _ => ⟨e, fun _ _ => rfl⟩, fun z => by cases z⟩
  | m + 1, A, e, i => by
    have n : A.wt b ≠ [] := fun z => by rw [z] at e; cases e
    by_cases p : A.pw = some 0
    · rw [emp_stop n p]
      exact ⟨i, fun z => (by cases z), fun _ => p⟩
    · rw [emp_step n p]
      have ln : ((A.step b).wt b).length = m := by
        show (if b = b then (A.wt b).tail else A.wt b).length = m
        rw [if_pos rfl, List.length_tail, e]; rfl
      obtain ⟨h1, h2, h3⟩ := drain_all h m (A.step b) ln (h A b i n p)
      refine ⟨h1, fun z => ⟨(h2 z).1, fun y hy => ?_⟩, h3⟩
      rw [(h2 z).2 y hy]
      show (if y = b then (A.wt y).tail else A.wt y) = A.wt y
      rw [if_neg hy]
theorem force_all {I : Acc → Prop} (h : Closed I) : ∀ (lot : List Int) (A : Acc), I A → I (A.force lot).1 ∧ ((A.force lot).2 = true → ∀ y, (A.force lot).1.wt y = if y ∈ lot then [] else A.wt y) ∧ ((A.force lot).2 = false → (A.force lot).1.pw = some 0)
  | [], A, i => ⟨i, fun _ y => by simp [Acc.force], fun z => by cases z⟩
  | b :: lot, A, i => by
    obtain ⟨h1, h2, h3⟩ := drain_all h (b := b) _ A rfl i
    cases e : A.emp b with
    | mk A1 t =>
      rw [e] at h1 h2 h3
      rw [force_cons e]
      cases t with
      | false =>
        rw [if_neg (by decide)]
        exact ⟨h1, fun z => (by cases z), fun _ => h3 rfl⟩
      | true =>
        rw [if_pos rfl]
        obtain ⟨k1, k2, k3⟩ := force_all h lot A1 h1
        obtain ⟨g1, g2⟩ := h2 rfl
        refine ⟨k1, fun z y => ?_, k3⟩
        rw [k2 z y]
        by_cases q : y = b
        · subst q
          rw [if_pos (by simp : y ∈ y :: lot)]
          split
          · rfl
          · exact g1
        · have gy : A1.wt y = A.wt y := g2 y q
          have e2 : (y ∈ b :: lot) ↔ (y ∈ lot) := by simp [q]
          by_cases m : y ∈ lot
          · rw [if_pos m, if_pos (e2.mpr m)]
          · rw [if_neg m, if_neg fun z => m (e2.mp z), gy]
def tot (A : Acc) : Nat := (A.U.map fun b => (A.wt b).length).sum
structure Good (U : List Int) (A : Acc) : Prop where
  ok : A.Ok
  U' : A.U = U
  B' : A.B = 16
  out : ∀ b, b ∉ U → A.wt b = []
/-- so much power, so many writes -/
structure Fit (power T : Int) (A : Acc) : Prop where
  pw : ∃ q, 0 ≤ q ∧ A.pw = some q ∧ q + A.n = power
  all : A.n + tot A = T
/-! the row -/
inductive Stp where
  | reach (b : Int) | force (lot : List Int) | calm
inductive RowOk (U : List Int) : List Int → List Stp → Prop where
  | done : RowOk U [] []
  | calm {left : List Int} : RowOk U left [.calm]
  | reach {left : List Int} {b : Int} {r : List Stp} : b ∈ left → b ∈ U → RowOk U (left.erase b) r → RowOk U left (.reach b :: r)
  | force {left lot : List Int} {r : List Stp} : lot.Pairwise (· < ·) → (∀ b ∈ lot, b ∈ U) → RowOk U (left.filter fun b => !decide (b ∈ lot)) r → RowOk U left (.force lot :: r)
end Lw
namespace Lw
open PySem L2 Mi
/-! what keeps a disk's contents contents -/
theorem ok_write {A : Acc} {b : Int} {w : W} (g : A.Ok) (hw : Cont w) (hl : (A.wt b).length < 999) : (A.write b w).Ok := by
  refine ⟨g.lie, fun y v hv => ?_, fun y => ?_⟩
  · have hv : v ∈ (if y = b then A.wt y ++ [w] else A.wt y) := hv
    split at hv
    · rcases List.mem_append.mp hv with hv | hv
      · exact g.row y v hv
      · rw [List.mem_singleton.mp hv]; exact hw
    · exact g.row y v hv
  · show (if y = b then A.wt y ++ [w] else A.wt y).length < 1000
    split
    · rename_i e
      rw [e, List.length_append]
      simp only [List.length_cons, List.length_nil]
      omega
    · exact g.short y
theorem ok_step {A : Acc} {b : Int} (g : A.Ok) (hb : A.wt b ≠ []) : (A.step b).Ok := by
  refine ⟨fun w hw => ?_, fun y v hv => ?_, fun y => ?_⟩
  · have hw : w ∈ A.lie.set b.toNat ((A.wt b).headD .non) := hw
    rcases List.mem_or_eq_of_mem_set hw with hw | rfl
    · exact g.lie w hw
    · cases e : A.wt b with
      | nil => exact absurd e hb
      | cons x xs => exact g.row b x (by rw [e]; simp)
  · have hv : v ∈ (if y = b then (A.wt y).tail else A.wt y) := hv
    split at hv
    · exact g.row y v (List.mem_of_mem_tail hv)
    · exact g.row y v hv
  · have := g.short y
    show (if y = b then (A.wt y).tail else A.wt y).length < 1000
    split
    · rw [List.length_tail]; omega
    · exact this
theorem ok_cut {A : Acc} (g : A.Ok) : A.cut.Ok := ⟨g.lie, fun b w hw => absurd hw (by simp [Acc.cut]), fun b => by simp [Acc.cut]⟩
theorem ok_zero {B : Nat} {U : List Int} : (Acc.zero B U).Ok := ⟨fun w hw => by
  have : w = .tup [] := List.eq_of_mem_replicate hw
  rw [this]; exact cont_nil, fun y w hw => absurd hw (by simp [Acc.zero]), fun y => by simp [Acc.zero]⟩
/-! footprints of two -/
theorem Go.more {o o' t : List Nat} {st s : Sto} (g : Go o st o' s) : Go (t ++ o) st (t ++ o') s := ⟨g.le, fun j n h e => g.fr j n (fun z => h (List.mem_append.mpr (.inr z))) e, fun j h => by
  rcases List.mem_append.mp h with h | h
  · exact .inl (List.mem_append.mpr (.inl h))
  · exact (g.ow j h).imp (fun z => List.mem_append.mpr (.inr z)) id⟩
theorem Go.left {o o' t : List Nat} {st s : Sto} (g : Go o st o' s) : Go (o ++ t) st (o' ++ t) s := ⟨g.le, fun j n h e => g.fr j n (fun z => h (List.mem_append.mpr (.inl z))) e, fun j h => by
  rcases List.mem_append.mp h with h | h
  · exact (g.ow j h).imp (fun z => List.mem_append.mpr (.inl z)) id
  · exact .inl (List.mem_append.mpr (.inr h))⟩
/-- a disk, and an account, beside the hand -/
structure Pr (h d k : Nat) (A1 A2 : Acc) (o1 o2 : List Nat) (s : Sto) : Prop where
  dk : Dk s d A1 o1
  bk : Bk s k A2 o2
  dis : ∀ j ∈ o2, j ∉ o1
  bg : Bg h s
  h1 : h ∉ o1
  h2 : h ∉ o2
section
variable {h d k : Nat} {A1 A2 A1' A2' : Acc} {o1 o2 o1' o2' : List Nat} {s s' : Sto}
theorem Pr.left (B : Pr h d k A1 A2 o1 o2 s) (D : Dk s' d A1' o1') (g : Go o1 s o1' s') : Pr h d k A1' A2 o1' o2 s' := by
  have hlt := B.bg.lt
  obtain ⟨cs, a, b', c, e, eg⟩ := B.bg
  exact ⟨D, B.bk.go g B.dis, fun j hj => g.out (B.dis j hj) (B.bk.lt j hj), ⟨cs, a, b', c, e, g.fr _ _ B.h1 eg⟩, g.out B.h1 hlt, B.h2⟩
theorem Pr.right (B : Pr h d k A1 A2 o1 o2 s) (F : Bk s' k A2' o2') (g : Go o2 s o2' s') : Pr h d k A1 A2' o1 o2' s' := by
  have hlt := B.bg.lt
  obtain ⟨cs, a, b', c, e, eg⟩ := B.bg
  exact ⟨B.dk.go g fun j hj z => B.dis j z hj, F, fun j hj z => g.out (fun y => B.dis j y z) (B.dk.lt j z) hj, ⟨cs, a, b', c, e, g.fr _ _ B.h2 eg⟩, B.h1, g.out B.h2 hlt⟩
/-- the hand is drawn from -/
theorem Pr.hand {n : Nd} (B : Pr h d k A1 A2 o1 o2 s) (g : Bg h (s.set h n)) : Pr h d k A1 A2 o1 o2 (s.set h n) :=
  ⟨B.dk.at fun j hj m e => by rw [get_setn (fun z : h = j => B.h1 (z ▸ hj))]; exact e, B.bk.at fun j hj m e => by rw [get_setn (fun z : h = j => B.h2 (z ▸ hj))]; exact e, B.dis, g, B.h1, B.h2⟩
/-- others work -/
theorem Pr.go {o o' : List Nat} (B : Pr h d k A1 A2 o1 o2 s) (g : Go o s o' s') (n1 : ∀ j ∈ o1, j ∉ o) (n2 : ∀ j ∈ o2, j ∉ o) (n3 : h ∉ o) : Pr h d k A1 A2 o1 o2 s' := by
  obtain ⟨cs, a, b', c, e, eg⟩ := B.bg
  exact ⟨B.dk.go g n1, B.bk.go g n2, B.dis, ⟨cs, a, b', c, e, g.fr _ _ n3 eg⟩, B.h1, B.h2⟩
end
/-! the deeds -/
/-- what the deeds leave: an account A', the hand's and the two's places alone have changed -/
def Did (h d k : Nat) (A : Acc) (o1 o2 : List Nat) (s0 : Sto) (A' : Acc) (s : Sto) : Prop :=
  ∃ o1' o2', Pr h d k A' A' o1' o2' s ∧ A'.Ok ∧ A'.U = A.U ∧ A'.B = A.B ∧ A'.pw = none ∧ Go (h :: (o1 ++ o2)) s0 (h :: (o1' ++ o2')) s
theorem go_l {h : Nat} {o1 o2 o1' : List Nat} {s s' : Sto} (g : Go o1 s o1' s') : Go (h :: (o1 ++ o2)) s (h :: (o1' ++ o2)) s' := (Go.left g).more (t := [h])
theorem go_r {h : Nat} {o1 o2 o2' : List Nat} {s s' : Sto} (g : Go o2 s o2' s') : Go (h :: (o1 ++ o2)) s (h :: (o1 ++ o2')) s' := (Go.more g).more (t := [h])
theorem go_h {h : Nat} {o : List Nat} {s : Sto} {n : Nd} : Go (h :: o) s (h :: o) (s.set h n) := Go.set (by simp) fun _ z => z
section
variable {h d k : Nat} {A A' : Acc} {o1 o2 : List Nat} {s s0 : Sto}
theorem Did.hand {n : Nd} (D : Did h d k A o1 o2 s0 A' s) (g : Bg h (s.set h n)) : Did h d k A o1 o2 s0 A' (s.set h n) := by
  obtain ⟨p1, p2, P, x1, x2, x3, x4, go⟩ := D
  exact ⟨p1, p2, P.hand g, x1, x2, x3, x4, go.trans go_h⟩
theorem Did.bg (D : Did h d k A o1 o2 s0 A' s) : Bg h s := by
  obtain ⟨p1, p2, P, _⟩ := D
  exact P.bg
theorem Did.write {b : Int} {w : W} (D : Did h d k A o1 o2 s0 A' s) (hb : b ∈ A.U) (hw : Cont w) (hl : (A'.wt b).length < 999) :
    wp (r_Disk_write [.ref d, .int b, w] s) (fun v s1 => v = .non ∧ wp (r_law_wrote [.ref k, .int b, w] s1) (fun v s2 => v = .non ∧ Did h d k A o1 o2 s0 (A'.write b w) s2) NoE) NoE := by
  obtain ⟨p1, p2, P, x1, x2, x3, x4, go⟩ := D
  have hb' : b ∈ A'.U := by rw [x2]; exact hb
  refine wp_no (write_ok P.dk hb' hw (by omega)) ?_
  rintro _ s1 ⟨rfl, q1, D1, g1⟩
  have P1 := P.left D1 g1
  refine ⟨rfl, wp_no (wrote_ok P1.bk hb' (by omega)) ?_⟩
  rintro _ s2 ⟨rfl, F2, g2⟩
  exact ⟨rfl, q1, p2, P1.right F2 g2, ok_write x1 hw hl, x2, x3, x4, (go.trans (go_l g1)).trans (go_r g2)⟩
theorem Did.reach {b : Int} (D : Did h d k A o1 o2 s0 A' s) (h0 : 0 ≤ b) (h1 : b < A.B) (hb : A'.wt b ≠ []) :
    wp (r_Disk_reach [.ref d, .int b] s) (fun v s1 => v = .non ∧ wp (r_law_reached [.ref k, .int b] s1) (fun v s2 => v = .bl true ∧ Did h d k A o1 o2 s0 (A'.step b) s2) NoE) NoE := by
  obtain ⟨p1, p2, P, x1, x2, x3, x4, go⟩ := D
  refine wp_mono (reach_ok P.dk h0 (by rw [x3]; exact h1) hb) ?_ ?_
  · rintro _ s1 ⟨rfl, np, q1, D1, g1⟩
    have P1 := P.left D1 g1
    refine ⟨rfl, wp_no (bstep_ok P1.bk hb np) ?_⟩
    rintro _ s2 ⟨rfl, F2, g2⟩
    exact ⟨rfl, q1, p2, P1.right F2 g2, ok_step x1 hb, x2, x3, by show A'.pw.map _ = none; rw [x4]; rfl, (go.trans (go_l g1)).trans (go_r g2)⟩
  · rintro x s1 ⟨_, z, _⟩
    rw [x4] at z
    cases z
theorem Did.cut (D : Did h d k A o1 o2 s0 A' s) :
    wp (r_Disk_cut [.ref d] s) (fun v s1 => v = .non ∧ wp (r_law_cut [.ref k] s1) (fun v s2 => v = .non ∧ Did h d k A o1 o2 s0 A'.cut s2) NoE) NoE := by
  obtain ⟨p1, p2, P, x1, x2, x3, x4, go⟩ := D
  refine wp_no (cut_ok P.dk) ?_
  rintro _ s1 ⟨rfl, q1, D1, g1⟩
  have P1 := P.left D1 g1
  refine ⟨rfl, wp_no (bcut_ok P1.bk) ?_⟩
  rintro _ s2 ⟨rfl, q2, F2, g2⟩
  exact ⟨rfl, q1, q2, P1.right F2 g2, ok_cut x1, x2, x3, rfl, (go.trans (go_l g1)).trans (go_r g2)⟩
end
end Lw
namespace Lw
open PySem L2 Mi
/-- a copy -/
def Acc.copied (A : Acc) : Acc := { A with wt := fun _ => [], pw := none, n := 0 }
theorem ok_copied {A : Acc} (g : A.Ok) : A.copied.Ok := ⟨g.lie, fun b w hw => absurd hw (by simp [Acc.copied]), fun b => by simp [Acc.copied]⟩
section
variable {s : Sto} {d k : Nat} {A : Acc} {own : List Nat} {P : W → Sto → Prop} {E : Xc → Sto → Prop}
theorem wp_listRf {i : Nat} {xs : List W} (e : s[i]? = some (.lst xs)) : wp (fList false [.ref i] s) P E ↔ P (.ref s.length) (s ++ [.lst xs]) := by
  have : fList false [.ref i] s = .ok (.ref s.length) (s ++ [.lst xs]) := by simp only [fList, seqL, e, newL]; rfl
  rw [this]; exact Iff.rfl
theorem copy_ok (D : Dk s d A own) (h0 : 16 ≤ A.B) (h1 : A.B ≤ 600) : wp (r_Disk_copy [.ref d] s) (fun v s' => ∃ e o, v = .ref e ∧ Dk s' e A.copied o ∧ Go [] s o s') NoE := by
  have mt := fun r => meth_k (m := "blocks") (r := r) D
  have uf : (∀ b ∈ A.U, 0 ≤ b ∧ b < A.B) ∧ A.U.length < 64 ∧ A.lie.length = A.B := by
    obtain ⟨c, k, L, D, _⟩ := D
    exact ⟨D.uni, D.few, D.len⟩
  have bo := @blocks_ok s d A own
  simp only [r_Disk_copy, m_Disk_copy]
  simp only [ws_seq, ws_if, ws_set, ws_sub, ws_ret, ws_retN, ws_expr, ws_sNx, ws_for, wp_op, wp_var0, wp_varS, wp_c, wp_mB, wp_toB, wp_tr, wp_trB_bl, wp_trB_non, wp_trB_int, wp_not, wp_and, wp_or, wp_if, wp_mBl, wp_nil, wp_cons, wp_tup, wp_lst, wp_lstS, wp_newL_t, wp_newL_f, wp_chain, wp_call, wp_fn, wp_sl, wp_noPart, wp_part, wp_comp, wp_yes, wp_iL, wp_iA, wp_srcL, wp_srcS, wp_srcAL, wp_srcAT, wp_iR1, wp_iR2, wp_rng1, wp_rng2, wp_iRv, wp_srcRL, wp_srcRT, wp_iEA, wp_srcEL, wp_srcET, wp_add, wp_sub, wp_mul, wp_mod, wp_div, wp_divW, wp_pow18, wp_pow17, wp_pow16, wp_pow30, wp_eqI, wp_neI, wp_cmpI, wp_isN, wp_isNotN, wp_lenL, wp_lenT, wp_abs, wp_int, wp_min2, wp_max2, wp_listL, wp_listT, wp_tupleL, wp_tupleT, wp_ixT0, wp_ixT1, wp_ixL0, wp_neg, wp_ok, wp_srcEL, wp_isB, wp_isNotB, wp_eqB, wp_neB, wp_all, wp_any, wp_slT, wp_slL, wp_rev, wp_revT, wp_revL, wp_disp, wp_pair, wp_pair0, wp_dict0, wipeW, List.foldl_cons, List.foldl_nil, wp_run, List.map, List.length, List.replicate, List.cons_append, List.nil_append, List.append_nil, List.set_cons_zero, List.set_cons_succ, if_true, if_false, Bool.not_true, Bool.not_false, Bool.true_eq_false, Bool.false_eq_true, Nat.reduceAdd, Nat.reduceSub, gName', wp_fldF, ws_fld, wp_lm, wp_din, wp_dget2, wp_dset2, wp_dpop, wp_newD, ws_raise, ws_nxE, ws_par, wp_make, wp_meth, wp_newL_f, wp_newL_t, wp_iT, Option.some.injEq, exists_eq_left', mt, blocks_ok D]
  refine wp_no (init_ok h0 h1 uf.1 uf.2.1) ?_
  rintro _ s1 ⟨rfl, o, D1, g1⟩
  have D2 := D.go g1 (fun j _ => by simp)
  obtain ⟨c, k2, L, D2, rfl⟩ := D2
  have lt1 := D1.lt
  obtain ⟨c', k', L', D1, rfl⟩ := D1
  obtain ⟨n1, n2, n3, n4⟩ := D1.ne
  refine ⟨by trivial, ?_⟩
  have le := lt1 s.length (by simp)
  have lk' := lt1 k' (by simp)
  have e0 : (s1 ++ [Nd.lst A.lie])[s.length]? = some (DiskN c' k' none 0) := get_app D1.hd
  have e1 := setF_of (f := "contents") (v := .ref s1.length) (cs := [0]) e0 rfl (by simp [fsD])
  rw [show putW "contents" (.ref s1.length) (fsD c' k' none 0) = fsD s1.length k' none 0 from rfl] at e1
  simp only [ws_seq, ws_if, ws_set, ws_sub, ws_ret, ws_retN, ws_expr, ws_sNx, ws_for, wp_op, wp_var0, wp_varS, wp_c, wp_mB, wp_toB, wp_tr, wp_trB_bl, wp_trB_non, wp_trB_int, wp_not, wp_and, wp_or, wp_if, wp_mBl, wp_nil, wp_cons, wp_tup, wp_lst, wp_lstS, wp_newL_t, wp_newL_f, wp_chain, wp_call, wp_fn, wp_sl, wp_noPart, wp_part, wp_comp, wp_yes, wp_iL, wp_iA, wp_srcL, wp_srcS, wp_srcAL, wp_srcAT, wp_iR1, wp_iR2, wp_rng1, wp_rng2, wp_iRv, wp_srcRL, wp_srcRT, wp_iEA, wp_srcEL, wp_srcET, wp_add, wp_sub, wp_mul, wp_mod, wp_div, wp_divW, wp_pow18, wp_pow17, wp_pow16, wp_pow30, wp_eqI, wp_neI, wp_cmpI, wp_isN, wp_isNotN, wp_lenL, wp_lenT, wp_abs, wp_int, wp_min2, wp_max2, wp_listL, wp_listT, wp_tupleL, wp_tupleT, wp_ixT0, wp_ixT1, wp_ixL0, wp_neg, wp_ok, wp_srcEL, wp_isB, wp_isNotB, wp_eqB, wp_neB, wp_all, wp_any, wp_slT, wp_slL, wp_rev, wp_revT, wp_revL, wp_disp, wp_pair, wp_pair0, wp_dict0, wipeW, List.foldl_cons, List.foldl_nil, wp_run, List.map, List.length, List.replicate, List.cons_append, List.nil_append, List.append_nil, List.set_cons_zero, List.set_cons_succ, if_true, if_false, Bool.not_true, Bool.not_false, Bool.true_eq_false, Bool.false_eq_true, Nat.reduceAdd, Nat.reduceSub, gName', wp_fldF, ws_fld, wp_lm, wp_din, wp_dget2, wp_dset2, wp_dpop, wp_newD, ws_raise, ws_nxE, ws_par, wp_make, wp_meth, wp_newL_f, wp_newL_t, wp_iT, Option.some.injEq, exists_eq_left', f_c D2.hd, wp_listRf D2.hc, wp_setR e1]
  have eL : L' = [] := by
    cases L' with
    | nil => rfl
    | cons p L' => exact absurd rfl (D1.row p.1 p.2 (by simp)).2.1
  subst eL
  refine ⟨s.length, [s.length, s1.length, k'], rfl, ⟨s1.length, k', [], ⟨get_setp e0, ?_, ?_, fun b r m => absurd m (by simp), fun b m => rfl, List.nodup_nil, ?_, uf.2.2, uf.1, uf.2.1⟩, rfl⟩, ?_⟩
  · rw [get_setn (by omega)]; exact get_new
  · rw [get_setn n2]; exact get_app D1.hk
  · simp only [List.map_nil, List.nodup_cons, List.mem_cons, List.not_mem_nil, or_false, not_or, not_false_eq_true, List.nodup_nil, and_true]
    exact ⟨⟨by omega, n2⟩, by omega⟩
  · refine ⟨?_, fun j n _ z => ?_, fun j h => ?_⟩
    · rw [List.length_set, List.length_append]; have := g1.le; simp only [List.length_cons, List.length_nil]; omega
    · rw [get_setn (fun q : s.length = j => by have := lt_of_get z; omega)]
      exact get_app (g1.fr j n (by simp) z)
    · right
      simp only [List.mem_cons, List.not_mem_nil, or_false] at h
      rcases h with h | h | h
      · omega
      · have := g1.le; omega
      · rcases g1.ow k' (by simp) with y | y
        · cases y
        · omega
/-- the law's book gets another list of what lies there -/
theorem relie_ok {xs : List W} (F : Bk s k A own) (hl : xs.length = A.B) : ∃ s' own', wStore (.ref k) (.str "lying") (.ref s.length) (s ++ [.lst xs]) = some s' ∧ Bk s' k { A with lie := xs } own' ∧ Go own s own' s' := by
  have lt := F.lt
  obtain ⟨l, w, M, F, rfl⟩ := F
  obtain ⟨n1, n2, n3⟩ := F.nr
  have lk := lt k (by simp)
  have ll := lt l (by simp)
  have lw := lt w (by simp)
  have e0 : (s ++ [Nd.lst xs])[k]? = some (.dk (bkL l w A.pw A.n)) := get_app F.hb
  have p1 := put_d (v := .ref s.length) e0 (keys' (x := "lying")) (by simp [bkL, sizeLine])
  rw [show putKW (bkL l w A.pw A.n) (Sum.inr "lying") (.ref s.length) = bkL s.length w A.pw A.n from rfl] at p1
  refine ⟨_, [k, s.length, w], p1, ⟨s.length, w, M, ⟨get_setp e0, ?_, ?_, F.row, F.non, F.nk, ⟨by omega, n2, by omega⟩, hl, F.uni, F.few⟩, rfl⟩, ?_⟩
  · rw [get_setn (by omega)]; exact get_new
  · rw [get_setn n2]; exact get_app F.hw
  · refine ⟨by simp, fun j n h z => ?_, fun j h => ?_⟩
    · rw [get_setn (fun q : k = j => h (by rw [← q]; simp))]
      exact get_app z
    · simp only [List.mem_cons, List.not_mem_nil, or_false] at h ⊢
      rcases h with h | h | h
      · exact .inl (.inl h)
      · exact .inr (by omega)
      · exact .inl (.inr (.inr h))
end
/-! nothing may reach the disk -/
end Lw
namespace Lw
open PySem L2 Mi
/-- a thing: what it holds at its own places -/
structure Th where
  own : List Nat
  φ : Sto → Prop
  loc : ∀ s s', φ s → (∀ j ∈ own, ∀ n, s[j]? = some n → s'[j]? = some n) → φ s'
  lt : ∀ s, φ s → ∀ j ∈ own, j < s.length
def tDk (d : Nat) (A : Acc) (own : List Nat) : Th := ⟨own, fun s => Dk s d A own, fun _ _ D h => D.at h, fun _ D => D.lt⟩
def tBk (k : Nat) (A : Acc) (own : List Nat) : Th := ⟨own, fun s => Bk s k A own, fun _ _ D h => D.at h, fun _ D => D.lt⟩
def tBg (h : Nat) : Th := ⟨[h], Bg h, fun s s' ⟨cs, a, b, c, e, q⟩ z => ⟨cs, a, b, c, e, z h (by simp) _ q⟩, fun s g j hj => by rw [List.mem_singleton.mp hj]; exact g.lt⟩
def tAt (i : Nat) (n : Nd) : Th := ⟨[i], fun s => s[i]? = some n, fun s s' e z => z i (by simp) n e, fun s e j hj => by rw [List.mem_singleton.mp hj]; exact lt_of_get e⟩
def apart (a b : Th) : Prop := ∀ x ∈ a.own, x ∉ b.own
theorem apart_symm {a b : Th} (h : apart a b) : apart b a := fun x hx hy => h x hy hx
/-- things apart from each other -/
structure Wd (L : List Th) (s : Sto) : Prop where
  all : ∀ t ∈ L, t.φ s
  dj : L.Pairwise apart
def owns (L : List Th) : List Nat := L.flatMap fun t => t.own
theorem mem_owns {L : List Th} {x : Nat} : x ∈ owns L ↔ ∃ t ∈ L, x ∈ t.own := by simp [owns, List.mem_flatMap]
section
variable {L L' R X X' : List Th} {s s' : Sto} {t t' : Th} {o : List Nat}
theorem Wd.perm (w : Wd L s) (p : L.Perm L') : Wd L' s := ⟨fun t h => w.all t (p.mem_iff.mpr h), (p.pairwise_iff fun h => apart_symm h).mp w.dj⟩
theorem Wd.frame {o2 : List Nat} (w : Wd L s) (g : Go o s o2 s') (h : ∀ t ∈ L, ∀ x ∈ t.own, x ∉ o) : Wd L s' := ⟨fun t ht => t.loc s s' (w.all t ht) fun j hj n e => g.fr j n (h t ht j hj) e, w.dj⟩
/-- some things work -/
theorem Wd.upds (w : Wd (X ++ R) s) (g : Go (owns X) s (owns X') s') (w' : Wd X' s') : Wd (X' ++ R) s' := by
  obtain ⟨a, d⟩ := w
  obtain ⟨d1, d2, d3⟩ := List.pairwise_append.mp d
  have out : ∀ t ∈ R, ∀ x ∈ t.own, x ∉ owns X := fun t ht x hx z => by
    obtain ⟨u, hu, hz⟩ := mem_owns.mp z
    exact d3 u hu t ht x hz hx
  refine ⟨fun t ht => ?_, List.pairwise_append.mpr ⟨w'.dj, d2, fun u hu t ht x hx hy => ?_⟩⟩
  · rcases List.mem_append.mp ht with ht | ht
    · exact w'.all t ht
    · exact t.loc s s' (a t (List.mem_append.mpr (.inr ht))) fun j hj n e => g.fr j n (out t ht j hj) e
  · have lx : x < s.length := t.lt s (a t (List.mem_append.mpr (.inr ht))) x hy
    exact g.out (out t ht x hy) lx (mem_owns.mpr ⟨u, hu, hx⟩)
theorem owns_one : owns [t] = t.own := by simp [owns]
theorem Wd.one (h : t.φ s) : Wd [t] s := ⟨fun u hu => by rw [List.mem_singleton.mp hu]; exact h, List.pairwise_singleton _ _⟩
theorem Wd.upd (w : Wd (t :: R) s) (g : Go t.own s t'.own s') (h : t'.φ s') : Wd (t' :: R) s' :=
  Wd.upds (X := [t]) (X' := [t']) w (by rw [owns_one, owns_one]; exact g) (Wd.one h)
theorem Wd.new (w : Wd R s) (g : Go [] s t'.own s') (h : t'.φ s') : Wd (t' :: R) s' :=
  Wd.upds (X := []) (X' := [t']) w (by rw [owns_one]; exact g) (Wd.one h)
/-- nothing that is there changes -/
theorem Wd.same (w : Wd R s) (g : Go [] s o s') : Wd R s' := ⟨fun t ht => t.loc s s' (w.all t ht) fun j hj n e => g.fr j n (by simp) e, w.dj⟩
theorem Wd.mid {L1 L2 : List Th} (w : Wd (L1 ++ t :: L2) s) (g : Go t.own s t'.own s') (h : t'.φ s') : Wd (L1 ++ t' :: L2) s' :=
  ((w.perm List.perm_middle).upd g h).perm List.perm_middle.symm
theorem Wd.get (w : Wd L s) (h : t ∈ L) : t.φ s := w.all t h
end
/-! a disk and its account -/
structure It where
  d : Nat
  k : Nat
  A : Acc
  o1 : List Nat
  o2 : List Nat
def tIt (i : It) : Th := ⟨i.o1 ++ i.o2, fun s => Dk s i.d i.A i.o1 ∧ Bk s i.k i.A i.o2 ∧ ∀ j ∈ i.o2, j ∉ i.o1, fun _ _ D h => ⟨D.1.at fun j hj => h j (List.mem_append.mpr (.inl hj)), D.2.1.at fun j hj => h j (List.mem_append.mpr (.inr hj)), D.2.2⟩, fun _ D j hj => (List.mem_append.mp hj).elim (D.1.lt j) (D.2.1.lt j)⟩
def It.dk (i : It) : Th := tDk i.d i.A i.o1
def It.bk (i : It) : Th := tBk i.k i.A i.o2
theorem Wd.split {i : It} {R : List Th} {s : Sto} (w : Wd (tIt i :: R) s) : Wd (i.dk :: i.bk :: R) s := by
  have f := w.get (t := tIt i) (by simp)
  refine Wd.upds (X := [tIt i]) (X' := [i.dk, i.bk]) w ?_ ⟨fun t ht => ?_, ?_⟩
  · have e : owns [i.dk, i.bk] = owns [tIt i] := by simp [owns, tIt, It.dk, It.bk, tDk, tBk]
    rw [e]; exact Go.refl
  · simp only [List.mem_cons, List.not_mem_nil, or_false] at ht
    rcases ht with rfl | rfl
    · exact f.1
    · exact f.2.1
  · refine List.pairwise_cons.mpr ⟨fun t ht => ?_, List.pairwise_singleton _ _⟩
    rw [List.mem_singleton.mp ht]
    exact fun x hx hy => f.2.2 x hy hx
theorem Wd.join {d k : Nat} {A : Acc} {o1 o2 : List Nat} {R : List Th} {s : Sto} (w : Wd (tDk d A o1 :: tBk k A o2 :: R) s) : Wd (tIt ⟨d, k, A, o1, o2⟩ :: R) s := by
  have f1 := w.get (t := tDk d A o1) (by simp)
  have f2 := w.get (t := tBk k A o2) (by simp)
  refine Wd.upds (X := [tDk d A o1, tBk k A o2]) (X' := [tIt ⟨d, k, A, o1, o2⟩]) w ?_ (Wd.one ⟨f1, f2, fun j hj hz => ?_⟩)
  · have e : owns [tIt ⟨d, k, A, o1, o2⟩] = owns [tDk d A o1, tBk k A o2] := by simp [owns, tIt, tDk, tBk]
    rw [e]; exact Go.refl
  · exact (List.pairwise_cons.mp w.dj).1 (tBk k A o2) (by simp) j hz hj
end Lw
namespace Lw
open PySem L2 Mi
abbrev tbn : Nd := .tb 0 "_law_deed.<locals>.<lambda>"
section
variable {mb : M W} {env : Ev} {st s' : Sto} {w : W}
theorem word_ok (e : st[0]? = some tbn) (h : mb env st = .ok w s') : mLam 0 "_law_deed.<locals>.<lambda>" (fun F cl => mL_law_word F cl) 2 mb env st = .ok w s' := by
  simp only [mLam, e, and_self, if_true]
  simp [mL_law_word, sSeq, sAsg, gName', gDo, mCallP, sForget, sTryM, catchA, sRet, mVar, mC, calmR, outOf, Rs.to, List.lookup, h]
theorem word_ex1 (e : st[0]? = some tbn) (h : mb env st = .ex (.plain 1) s') : mLam 0 "_law_deed.<locals>.<lambda>" (fun F cl => mL_law_word F cl) 2 mb env st = .ok (.str "stopped") s' := by
  have ag : ∀ (f : Addr → SRs), (∀ a, f a = .nx [none, some (.str "stopped"), none] s') → agree f = .nx [none, some (.str "stopped"), none] s' := fun f h => agree_eq h
  simp only [mLam, e, and_self, if_true]
  simp [mL_law_word, sSeq, sAsg, gName', gDo, mCallP, sForget, sTryM, catchA, sRet, mVar, mC, calmR, outOf, Rs.to, List.lookup, h]
  rw [ag _ (fun a => by simp [clrS, mIf, mAnd, mTr, trW, mExIs, mC, Rs.to, Rs.bind, gDo, List.lookup])]
  rfl
theorem word_ex2 (e : st[0]? = some tbn) (h : mb env st = .ex (.plain 2) s') : mLam 0 "_law_deed.<locals>.<lambda>" (fun F cl => mL_law_word F cl) 2 mb env st = .ok (.str "nothing") s' := by
  have ag : ∀ (f : Addr → SRs), (∀ a, f a = .nx [none, some (.str "nothing"), none] s') → agree f = .nx [none, some (.str "nothing"), none] s' := fun f h => agree_eq h
  simp only [mLam, e, and_self, if_true]
  simp [mL_law_word, sSeq, sAsg, gName', gDo, mCallP, sForget, sTryM, catchA, sRet, mVar, mC, calmR, outOf, Rs.to, List.lookup, h]
  rw [ag _ (fun a => by simp [clrS, mIf, mAnd, mTr, trW, mExIs, mC, Rs.to, Rs.bind, gDo, List.lookup])]
  rfl
theorem wp_word {P : W → Sto → Prop} {E : Xc → Sto → Prop} (e : st[0]? = some tbn) (h : wp (mb env st) P (fun x s => (x = .plain 1 ∧ P (.str "stopped") s) ∨ (x = .plain 2 ∧ P (.str "nothing") s))) :
    wp (mLam 0 "_law_deed.<locals>.<lambda>" (fun F cl => mL_law_word F cl) 2 mb env st) P E := by
  cases q : mb env st with
  | ok w s => rw [q] at h; rw [word_ok e q]; exact h
  | ex x s =>
    rw [q] at h
    rcases h with ⟨rfl, h⟩ | ⟨rfl, h⟩
    · rw [word_ex1 e q]; exact h
    · rw [word_ex2 e q]; exact h
  | stuck => rw [q] at h; exact h.elim
end
theorem reach_none {st : Sto} {d : Nat} {A : Acc} {own : List Nat} {b : Int} (D : Dk st d A own) (h0 : 0 ≤ b) (h1 : b < A.B) (hb : A.wt b = []) : wp (r_Disk_reach [.ref d, .int b] st) (fun _ _ => False) (fun x s => x = .plain 2 ∧ s = st) := by
  have dm := fun P E => demand_ok (P := P) (E := E) D h0 h1
  have mt := fun m r h => meth_k (m := m) (r := r) D h
  obtain ⟨c, k, L, D, rfl⟩ := D
  simp only [r_Disk_reach, m_Disk_reach]
  simp only [ws_seq, ws_if, ws_set, ws_sub, ws_ret, ws_retN, ws_expr, ws_sNx, ws_for, wp_op, wp_var0, wp_varS, wp_c, wp_mB, wp_toB, wp_tr, wp_trB_bl, wp_trB_non, wp_trB_int, wp_not, wp_and, wp_or, wp_if, wp_mBl, wp_nil, wp_cons, wp_tup, wp_lst, wp_lstS, wp_newL_t, wp_newL_f, wp_chain, wp_call, wp_fn, wp_sl, wp_noPart, wp_part, wp_comp, wp_yes, wp_iL, wp_iA, wp_srcL, wp_srcS, wp_srcAL, wp_srcAT, wp_iR1, wp_iR2, wp_rng1, wp_rng2, wp_iRv, wp_srcRL, wp_srcRT, wp_iEA, wp_srcEL, wp_srcET, wp_add, wp_sub, wp_mul, wp_mod, wp_div, wp_divW, wp_pow18, wp_pow17, wp_pow16, wp_pow30, wp_eqI, wp_neI, wp_cmpI, wp_isN, wp_isNotN, wp_lenL, wp_lenT, wp_abs, wp_int, wp_min2, wp_max2, wp_listL, wp_listT, wp_tupleL, wp_tupleT, wp_ixT0, wp_ixT1, wp_ixL0, wp_neg, wp_ok, wp_srcEL, wp_isB, wp_isNotB, wp_eqB, wp_neB, wp_all, wp_any, wp_slT, wp_slL, wp_rev, wp_revT, wp_revL, wp_disp, wp_pair, wp_pair0, wp_dict0, wipeW, List.foldl_cons, List.foldl_nil, wp_run, List.map, List.length, List.replicate, List.cons_append, List.nil_append, List.append_nil, List.set_cons_zero, List.set_cons_succ, if_true, if_false, Bool.not_true, Bool.not_false, Bool.true_eq_false, Bool.false_eq_true, Nat.reduceAdd, Nat.reduceSub, gName', wp_fldF, ws_fld, wp_lm, wp_din, wp_dget2, wp_dset2, wp_dpop, wp_newD, ws_raise, ws_nxE, ws_par, wp_make, wp_meth, wp_newL_f, wp_newL_t, wp_iT, Option.some.injEq, exists_eq_left', mt "demand_block" _ rfl, dm, f_k D.hd, wp_dinR D.hk keyi, D.isk, hb, List.isEmpty_nil]
  exact ⟨by trivial, by trivial⟩
/-- what stands from deed to deed -/
structure AccI (U : List Int) (B m : Nat) (A : Acc) : Prop where
  ok : A.Ok
  U' : A.U = U
  B' : A.B = B
  pw : ∀ i, A.pw = some i → 0 ≤ i
  len : ∀ b, (A.wt b).length ≤ m
section
variable {U : List Int} {B m : Nat} {A : Acc}
theorem accI_step : Closed (AccI U B m) := fun A b g n p => ⟨ok_step g.ok n, g.U', g.B', fun i e => by
  have e : A.pw.map (fun i => i - 1) = some i := e
  cases q : A.pw with
  | none => rw [q] at e; cases e
  | some j =>
    rw [q] at e
    simp only [Option.map_some, Option.some.injEq] at e
    have := g.pw j q
    have : j ≠ 0 := fun z => p (by rw [q, z])
    omega, fun y => Nat.le_trans step_len (g.len y)⟩
theorem AccI.more (g : AccI U B m A) : AccI U B (m + 1) A := ⟨g.ok, g.U', g.B', g.pw, fun b => Nat.le_succ_of_le (g.len b)⟩
theorem AccI.force (g : AccI U B m A) (lot : List Int) : AccI U B m (A.force lot).1 := (force_all accI_step lot A g).1
theorem AccI.cut (g : AccI U B m A) : AccI U B m A.cut := ⟨ok_cut g.ok, g.U', g.B', fun i e => (by cases e), fun b => Nat.zero_le _⟩
theorem AccI.power (g : AccI U B m A) {p : Option Int} (h : ∀ i, p = some i → 0 ≤ i) : AccI U B m (A.power p) := ⟨⟨g.ok.lie, g.ok.row, g.ok.short⟩, g.U', g.B', h, g.len⟩
theorem AccI.write (g : AccI U B m A) {b : Int} {w : W} (hw : Cont w) (hm : m < 900) : AccI U B (m + 1) (A.write b w) := ⟨ok_write g.ok hw (Nat.lt_of_le_of_lt (g.len b) (by omega)), g.U', g.B', g.pw, fun y => by
  have := g.len y
  show (if y = b then A.wt y ++ [w] else A.wt y).length ≤ m + 1
  split
  · rw [List.length_append]; simp only [List.length_cons, List.length_nil]; omega
  · omega⟩
theorem AccI.copied (g : AccI U B m A) : AccI U B m A.copied := ⟨ok_copied g.ok, g.U', g.B', fun i e => (by cases e), fun b => Nat.zero_le _⟩
theorem accI_zero : AccI U B 0 (Acc.zero B U) := ⟨ok_zero, rfl, rfl, fun i e => (by cases e), fun b => by simp [Acc.zero]⟩
end
end Lw
namespace Lw
open PySem L2 Mi
section
variable {s : Sto} {k : Nat} {A : Acc} {own : List Nat} {P : W → Sto → Prop} {E : Xc → Sto → Prop}
theorem bpower_ok (F : Bk s k A own) (p : Option Int) : ∃ s2, wStore (.ref k) (.str "power") (pwW p) s = some s2 ∧ Bk s2 k (A.power p) own ∧ Go own s own s2 := by
  obtain ⟨l, w, M, F, rfl⟩ := F
  obtain ⟨n1, n2, n3⟩ := F.nr
  have pd := put_d (v := pwW p) F.hb (keys' (x := "power")) (by simp [bkL, sizeLine])
  rw [pt_po] at pd
  refine ⟨_, pd, ⟨l, w, M, ⟨get_setp F.hb, by rw [get_setn n1]; exact F.hl, by rw [get_setn n2]; exact F.hw, F.row, F.non, F.nk, F.nr, F.len, F.uni, F.few⟩, rfl⟩, Go.set (by simp) fun _ z => z⟩
theorem wp_pow6 {st : Sto} : wp (wPow (.int 10) (.int 6) st) P E ↔ P (.int 1000000) st := by
  have : wPow (.int 10) (.int 6) st = .ok (.int 1000000) st := rfl
  rw [this]; exact Iff.rfl
theorem wp_sortset {st : Sto} {ns : List Int} (h : ns.length < 64) : wp (fSortSet true [.lst (ns.map W.int)] st) P E ↔ P (.lst ((setZ ns).map W.int)) st := by
  have : fSortSet true [.lst (ns.map W.int)] st = .ok (.lst ((setZ ns).map W.int)) st := by
    simp only [fSortSet, seqL, intsOf_map, h, if_true, newL]
  rw [this]; exact Iff.rfl
theorem kmapB {l w : Nat} {M : List (Int × List W)} (F : BkS s k l w M A) : (rvL M).map (·.1) = (M.map (·.1)).map Sum.inl := by simp [rvL]
theorem wp_eqSS {x y : Str} {st : Sto} : wp (wEq (.str x) (.str y) st) P E ↔ P (.bl (decide (x = y))) st := by
  have : wEq (.str x) (.str y) st = .ok (.bl (decide (x = y))) st := by simp [wEq, eqW, scalV, scal]
  rw [this]; exact Iff.rfl
theorem wp_eqNS {y : Str} {st : Sto} : wp (wEq .non (.str y) st) P E ↔ P (.bl false) st := by
  have : wEq .non (.str y) st = .ok (.bl false) st := by simp [wEq, eqW, scalV, scal]
  rw [this]; exact Iff.rfl
theorem wp_eqNN {st : Sto} : wp (wEq .non .non st) P E ↔ P (.bl true) st := by
  have : wEq .non .non st = .ok (.bl true) st := by simp [wEq, eqW, scalV, scal]
  rw [this]; exact Iff.rfl
/-- whether something waits, by the book -/
theorem inW_ok {l w : Nat} {M : List (Int × List W)} (F : BkS s k l w M A) (b : Int) : (lkW (rvL M) (.inl b)).isSome = !(A.wt b).isEmpty := by
  rw [F.get b]
  cases e : A.wt b with
  | nil => rfl
  | cons x xs => rfl
end
abbrev EnvG (h d k : Nat) (xs : List W) (a b c e f g i : Option W) : Ev := [some (.ref h), some (.ref d), some (.ref k), some (.lst xs), a, b, c, e, f, g, i]
abbrev WorldG (h d k : Nat) (A1 A2 : Acc) (o1 o2 : List Nat) (R : List Th) : List Th := tBg h :: tDk d A1 o1 :: tBk k A2 o2 :: tAt 0 tbn :: R
/-- the words -/
def Wrd (w : W) : Prop := w = .non ∨ w = .str "stopped" ∨ w = .str "nothing"
section
variable {h d k : Nat} {A1 A2 : Acc} {o1 o2 : List Nat} {R : List Th} {s s' : Sto}
theorem Wd.hand' {n : Nd} (w : Wd (WorldG h d k A1 A2 o1 o2 R) s) (g : Bg h (s.set h n)) : Wd (WorldG h d k A1 A2 o1 o2 R) (s.set h n) := w.upd (t' := tBg h) (Go.set (by simp [tBg]) fun _ z => z) g
theorem Wd.disk {A1' : Acc} {o1' : List Nat} (w : Wd (WorldG h d k A1 A2 o1 o2 R) s) (D : Dk s' d A1' o1') (g : Go o1 s o1' s') : Wd (WorldG h d k A1' A2 o1' o2 R) s' := Wd.mid (L1 := [tBg h]) (t := tDk d A1 o1) (t' := tDk d A1' o1') w g D
theorem Wd.book {A2' : Acc} {o2' : List Nat} (w : Wd (WorldG h d k A1 A2 o1 o2 R) s) (F : Bk s' k A2' o2') (g : Go o2 s o2' s') : Wd (WorldG h d k A1 A2' o1 o2' R) s' := Wd.mid (L1 := [tBg h, tDk d A1 o1]) (t := tBk k A2 o2) (t' := tBk k A2' o2') w g F
theorem Wd.gD (w : Wd (WorldG h d k A1 A2 o1 o2 R) s) : Dk s d A1 o1 := w.get (t := tDk d A1 o1) (by simp)
theorem Wd.gB (w : Wd (WorldG h d k A1 A2 o1 o2 R) s) : Bk s k A2 o2 := w.get (t := tBk k A2 o2) (by simp)
theorem Wd.gH (w : Wd (WorldG h d k A1 A2 o1 o2 R) s) : Bg h s := w.get (t := tBg h) (by simp)
theorem Wd.gT (w : Wd (WorldG h d k A1 A2 o1 o2 R) s) : s[0]? = some tbn := w.get (t := tAt 0 tbn) (by simp)
end
end Lw
namespace Lw
open PySem L2 Mi
noncomputable def b6K : MS := sSeq (sAsg (mCall r_law_content (mCons (mVar 0) (mNil))) (gName' 6)) (sSeq (sExpr (mCall r_law_wrote (mCons (mVar 2) (mCons (mVar 5) (mCons (mVar 6) (mNil)))))) (sRet (mOp (wIs) (mLam 0 "_law_deed.<locals>.<lambda>" (fun F cl => mL_law_word F cl) 2 (mMeth [(0, r_Disk_write)] "write" (mVar 1) (mCons (mVar 5) (mCons (mVar 6) (mNil))))) (mC .non))))
noncomputable def b9K : MS := sSeq (sAsg (mC (.str "nothing")) (gName' 7)) (sSeq (sIf (mB (mDin false (mVar 5) (mOp wIx (mVar 2) (mC (.str "waits"))))) (sAsg (mIf (mTr (mCall r_law_reached (mCons (mVar 2) (mCons (mVar 5) (mNil))))) (mC .non) (mC (.str "stopped"))) (gName' 7)) (sNx)) (sAsg (mLam 0 "_law_deed.<locals>.<lambda>" (fun F cl => mL_law_word F cl) 2 (mMeth [(0, r_Disk_reach)] "reach" (mVar 1) (mCons (mVar 5) (mNil)))) (gName' 8)))
noncomputable def b11K : MS := sSeq (sAsg (mFn fTuple (mCons (mFn (fSortSet true) (mCons (mComp true (iR1 (mCons (mCall r_law_draw (mCons (mVar 0) (mCons (mC (.int 4)) (mNil)))) (mNil))) [10] (.one 10) (mYes) (mCall r_law_any (mCons (mVar 0) (mCons (mVar 3) (mNil))))) (mNil))) (mNil))) (gName' 9)) (sSeq (sAsg (mIf (mTr (mCall r_law_forced (mCons (mVar 2) (mCons (mVar 9) (mNil))))) (mC .non) (mC (.str "stopped"))) (gName' 7)) (sAsg (mLam 0 "_law_deed.<locals>.<lambda>" (fun F cl => mL_law_word F cl) 2 (mMeth [(0, r_Disk_force)] "force" (mVar 1) (mCons (mVar 9) (mNil)))) (gName' 8)))
noncomputable def bcK : MS := sSeq (sAsg (mIf (mTr (mCall r_law_forced (mCons (mVar 2) (mCons (mFn (fSorted true) (mCons (mOp wIx (mVar 2) (mC (.str "waits"))) (mNil))) (mNil))))) (mC .non) (mC (.str "stopped"))) (gName' 7)) (sAsg (mLam 0 "_law_deed.<locals>.<lambda>" (fun F cl => mL_law_word F cl) 2 (mMeth [(0, r_Disk_calm)] "calm" (mVar 1) mNil)) (gName' 8))
noncomputable def bpK : MS := sSeq (sAsg (mCall r_law_any (mCons (mVar 0) (mCons (mLst true (mCons (mC .non) (mCons (mC (.int 0)) (mCons (mC (.int 1)) (mCons (mC (.int 2)) (mCons (mC (.int 3)) (mCons (mC (.int 7)) (mCons (mOp (wPow) (mC (.int 10)) (mC (.int 6))) (mNil))))))))) (mNil)))) (gSub' (mVar 2) (mC (.str "power")))) (sPar 7 8 (mC .non) (mLam 0 "_law_deed.<locals>.<lambda>" (fun F cl => mL_law_word F cl) 2 (mMeth [(0, r_Disk_power)] "power" (mVar 1) (mCons (mOp wIx (mVar 2) (mC (.str "power"))) (mNil)))))
noncomputable def bxK : MS := sSeq (sExpr (mCall r_law_cut (mCons (mVar 2) (mNil)))) (sPar 7 8 (mC .non) (mLam 0 "_law_deed.<locals>.<lambda>" (fun F cl => mL_law_word F cl) 2 (mMeth [(0, r_Disk_cut)] "cut" (mVar 1) mNil)))
/-- what a branch leaves: the due word and the told one are alike -/
def Alike (h d k : Nat) (U : List Int) (B m : Nat) (R : List Th) (xs : List W) : KN := fun e s => ∃ a b c g i tw, e = EnvG h d k xs a b c (some tw) (some tw) g i ∧ Wrd tw ∧ ∃ A o1 o2, Wd (WorldG h d k A A o1 o2 R) s ∧ AccI U B m A
abbrev FB : KN := fun _ _ => False
abbrev FR : KR := fun _ _ => False
abbrev FX : KX := fun _ _ _ => False
section
variable {h d k B m : Nat} {U some1 : List Int} {A : Acc} {o1 o2 : List Nat} {R : List Th} {s : Sto} {a b c e f g i : Option W}
theorem bx_ok (w : Wd (WorldG h d k A A o1 o2 R) s) (I : AccI U B m A) : ws (bxK (EnvG h d k (some1.map W.int) a b c e f g i) s) (Alike h d k U B m R (some1.map W.int)) FR FB FB FX := by
  unfold bxK
  rw [ws_seq]
  refine ws_nx (N := fun e' s' => e' = EnvG h d k (some1.map W.int) a b c e f g i ∧ ∃ o2, Wd (WorldG h d k A A.cut o1 o2 R) s') ?_ ?_
  · unfold EnvG
    simp only [ws_seq, ws_if, ws_set, ws_sub, ws_ret, ws_retN, ws_expr, ws_sNx, ws_for, wp_op, wp_var0, wp_varS, wp_c, wp_mB, wp_toB, wp_tr, wp_trB_bl, wp_trB_non, wp_trB_int, wp_not, wp_and, wp_or, wp_if, wp_mBl, wp_nil, wp_cons, wp_tup, wp_lst, wp_lstS, wp_newL_t, wp_newL_f, wp_chain, wp_call, wp_fn, wp_sl, wp_noPart, wp_part, wp_comp, wp_yes, wp_iL, wp_iA, wp_srcL, wp_srcS, wp_srcAL, wp_srcAT, wp_iR1, wp_iR2, wp_rng1, wp_rng2, wp_iRv, wp_srcRL, wp_srcRT, wp_iEA, wp_srcEL, wp_srcET, wp_add, wp_sub, wp_mul, wp_mod, wp_div, wp_divW, wp_pow18, wp_pow17, wp_pow16, wp_pow30, wp_eqI, wp_neI, wp_cmpI, wp_isN, wp_isNotN, wp_lenL, wp_lenT, wp_abs, wp_int, wp_min2, wp_max2, wp_listL, wp_listT, wp_tupleL, wp_tupleT, wp_ixT0, wp_ixT1, wp_ixL0, wp_neg, wp_ok, wp_srcEL, wp_isB, wp_isNotB, wp_eqB, wp_neB, wp_all, wp_any, wp_slT, wp_slL, wp_rev, wp_revT, wp_revL, wp_disp, wp_pair, wp_pair0, wp_dict0, wipeW, List.foldl_cons, List.foldl_nil, wp_run, List.map, List.length, List.replicate, List.cons_append, List.nil_append, List.append_nil, List.set_cons_zero, List.set_cons_succ, if_true, if_false, Bool.not_true, Bool.not_false, Bool.true_eq_false, Bool.false_eq_true, Nat.reduceAdd, Nat.reduceSub, gName', wp_fldF, ws_fld, wp_lm, wp_din, wp_dget2, wp_dset2, wp_dpop, wp_newD, ws_raise, ws_nxE, ws_par, wp_make, wp_meth, wp_newL_f, wp_newL_t, wp_iT, Option.some.injEq, exists_eq_left']
    refine wp_no (bcut_ok w.gB) ?_
    rintro _ s1 ⟨rfl, o2', F1, g1⟩
    exact ⟨by trivial, o2', w.book F1 g1⟩
  rintro _ s1 ⟨rfl, o2, w1⟩
  unfold EnvG
  rw [ws_par]
  simp only [ws_seq, ws_if, ws_set, ws_sub, ws_ret, ws_retN, ws_expr, ws_sNx, ws_for, wp_op, wp_var0, wp_varS, wp_c, wp_mB, wp_toB, wp_tr, wp_trB_bl, wp_trB_non, wp_trB_int, wp_not, wp_and, wp_or, wp_if, wp_mBl, wp_nil, wp_cons, wp_tup, wp_lst, wp_lstS, wp_newL_t, wp_newL_f, wp_chain, wp_call, wp_fn, wp_sl, wp_noPart, wp_part, wp_comp, wp_yes, wp_iL, wp_iA, wp_srcL, wp_srcS, wp_srcAL, wp_srcAT, wp_iR1, wp_iR2, wp_rng1, wp_rng2, wp_iRv, wp_srcRL, wp_srcRT, wp_iEA, wp_srcEL, wp_srcET, wp_add, wp_sub, wp_mul, wp_mod, wp_div, wp_divW, wp_pow18, wp_pow17, wp_pow16, wp_pow30, wp_eqI, wp_neI, wp_cmpI, wp_isN, wp_isNotN, wp_lenL, wp_lenT, wp_abs, wp_int, wp_min2, wp_max2, wp_listL, wp_listT, wp_tupleL, wp_tupleT, wp_ixT0, wp_ixT1, wp_ixL0, wp_neg, wp_ok, wp_srcEL, wp_isB, wp_isNotB, wp_eqB, wp_neB, wp_all, wp_any, wp_slT, wp_slL, wp_rev, wp_revT, wp_revL, wp_disp, wp_pair, wp_pair0, wp_dict0, wipeW, List.foldl_cons, List.foldl_nil, wp_run, List.map, List.length, List.replicate, List.cons_append, List.nil_append, List.append_nil, List.set_cons_zero, List.set_cons_succ, if_true, if_false, Bool.not_true, Bool.not_false, Bool.true_eq_false, Bool.false_eq_true, Nat.reduceAdd, Nat.reduceSub, gName', wp_fldF, ws_fld, wp_lm, wp_din, wp_dget2, wp_dset2, wp_dpop, wp_newD, ws_raise, ws_nxE, ws_par, wp_make, wp_meth, wp_newL_f, wp_newL_t, wp_iT, Option.some.injEq, exists_eq_left']
  refine wp_word w1.gT ?_
  simp only [ws_seq, ws_if, ws_set, ws_sub, ws_ret, ws_retN, ws_expr, ws_sNx, ws_for, wp_op, wp_var0, wp_varS, wp_c, wp_mB, wp_toB, wp_tr, wp_trB_bl, wp_trB_non, wp_trB_int, wp_not, wp_and, wp_or, wp_if, wp_mBl, wp_nil, wp_cons, wp_tup, wp_lst, wp_lstS, wp_newL_t, wp_newL_f, wp_chain, wp_call, wp_fn, wp_sl, wp_noPart, wp_part, wp_comp, wp_yes, wp_iL, wp_iA, wp_srcL, wp_srcS, wp_srcAL, wp_srcAT, wp_iR1, wp_iR2, wp_rng1, wp_rng2, wp_iRv, wp_srcRL, wp_srcRT, wp_iEA, wp_srcEL, wp_srcET, wp_add, wp_sub, wp_mul, wp_mod, wp_div, wp_divW, wp_pow18, wp_pow17, wp_pow16, wp_pow30, wp_eqI, wp_neI, wp_cmpI, wp_isN, wp_isNotN, wp_lenL, wp_lenT, wp_abs, wp_int, wp_min2, wp_max2, wp_listL, wp_listT, wp_tupleL, wp_tupleT, wp_ixT0, wp_ixT1, wp_ixL0, wp_neg, wp_ok, wp_srcEL, wp_isB, wp_isNotB, wp_eqB, wp_neB, wp_all, wp_any, wp_slT, wp_slL, wp_rev, wp_revT, wp_revL, wp_disp, wp_pair, wp_pair0, wp_dict0, wipeW, List.foldl_cons, List.foldl_nil, wp_run, List.map, List.length, List.replicate, List.cons_append, List.nil_append, List.append_nil, List.set_cons_zero, List.set_cons_succ, if_true, if_false, Bool.not_true, Bool.not_false, Bool.true_eq_false, Bool.false_eq_true, Nat.reduceAdd, Nat.reduceSub, gName', wp_fldF, ws_fld, wp_lm, wp_din, wp_dget2, wp_dset2, wp_dpop, wp_newD, ws_raise, ws_nxE, ws_par, wp_make, wp_meth, wp_newL_f, wp_newL_t, wp_iT, Option.some.injEq, exists_eq_left', fun r => meth_k (m := "cut") (r := r) w1.gD]
  refine wp_mono (cut_ok w1.gD) ?_ (fun _ _ z => z.elim)
  rintro _ s2 ⟨rfl, o1', D2, g2⟩
  exact ⟨_, _, _, _, _, .non, rfl, .inl rfl, A.cut, o1', o2, w1.disk D2 g2, I.cut⟩
theorem bp_ok (w : Wd (WorldG h d k A A o1 o2 R) s) (I : AccI U B m A) : ws (bpK (EnvG h d k (some1.map W.int) a b c e f g i) s) (Alike h d k U B m R (some1.map W.int)) FR FB FB FX := by
  unfold bpK
  rw [ws_seq]
  refine ws_nx (N := fun e' s' => e' = EnvG h d k (some1.map W.int) a b c e f g i ∧ ∃ p : Option Int, (∀ i, p = some i → 0 ≤ i ∧ i ≤ 1000000) ∧ Wd (WorldG h d k A (A.power p) o1 o2 R) s') ?_ ?_
  · unfold EnvG
    simp only [ws_seq, ws_if, ws_set, ws_sub, ws_ret, ws_retN, ws_expr, ws_sNx, ws_for, wp_op, wp_var0, wp_varS, wp_c, wp_mB, wp_toB, wp_tr, wp_trB_bl, wp_trB_non, wp_trB_int, wp_not, wp_and, wp_or, wp_if, wp_mBl, wp_nil, wp_cons, wp_tup, wp_lst, wp_lstS, wp_newL_t, wp_newL_f, wp_chain, wp_call, wp_fn, wp_sl, wp_noPart, wp_part, wp_comp, wp_yes, wp_iL, wp_iA, wp_srcL, wp_srcS, wp_srcAL, wp_srcAT, wp_iR1, wp_iR2, wp_rng1, wp_rng2, wp_iRv, wp_srcRL, wp_srcRT, wp_iEA, wp_srcEL, wp_srcET, wp_add, wp_sub, wp_mul, wp_mod, wp_div, wp_divW, wp_pow18, wp_pow17, wp_pow16, wp_pow30, wp_eqI, wp_neI, wp_cmpI, wp_isN, wp_isNotN, wp_lenL, wp_lenT, wp_abs, wp_int, wp_min2, wp_max2, wp_listL, wp_listT, wp_tupleL, wp_tupleT, wp_ixT0, wp_ixT1, wp_ixL0, wp_neg, wp_ok, wp_srcEL, wp_isB, wp_isNotB, wp_eqB, wp_neB, wp_all, wp_any, wp_slT, wp_slL, wp_rev, wp_revT, wp_revL, wp_disp, wp_pair, wp_pair0, wp_dict0, wipeW, List.foldl_cons, List.foldl_nil, wp_run, List.map, List.length, List.replicate, List.cons_append, List.nil_append, List.append_nil, List.set_cons_zero, List.set_cons_succ, if_true, if_false, Bool.not_true, Bool.not_false, Bool.true_eq_false, Bool.false_eq_true, Nat.reduceAdd, Nat.reduceSub, gName', wp_fldF, ws_fld, wp_lm, wp_din, wp_dget2, wp_dset2, wp_dpop, wp_newD, ws_raise, ws_nxE, ws_par, wp_make, wp_meth, wp_newL_f, wp_newL_t, wp_iT, Option.some.injEq, exists_eq_left', wp_pow6]
    refine wp_no (any_ok w.gH (xs := [.non, .int 0, .int 1, .int 2, .int 3, .int 7, .int 1000000]) (by simp) (by simp)) ?_
    rintro v s1 ⟨n, hv, rfl, g1⟩
    have w1 := w.hand' g1
    obtain ⟨p, rfl, hp⟩ : ∃ p : Option Int, v = pwW p ∧ ∀ i, p = some i → 0 ≤ i ∧ i ≤ 1000000 := by
      simp only [List.mem_cons, List.not_mem_nil, or_false] at hv
      rcases hv with rfl | rfl | rfl | rfl | rfl | rfl | rfl
      · exact ⟨none, rfl, fun i e => by cases e⟩
      · exact ⟨some 0, rfl, fun i e => by cases e; omega⟩
      · exact ⟨some 1, rfl, fun i e => by cases e; omega⟩
      · exact ⟨some 2, rfl, fun i e => by cases e; omega⟩
      · exact ⟨some 3, rfl, fun i e => by cases e; omega⟩
      · exact ⟨some 7, rfl, fun i e => by cases e; omega⟩
      · exact ⟨some 1000000, rfl, fun i e => by cases e; omega⟩
    obtain ⟨s2, e2, F2, g2⟩ := bpower_ok w1.gB p
    simp only [ws_seq, ws_if, ws_set, ws_sub, ws_ret, ws_retN, ws_expr, ws_sNx, ws_for, wp_op, wp_var0, wp_varS, wp_c, wp_mB, wp_toB, wp_tr, wp_trB_bl, wp_trB_non, wp_trB_int, wp_not, wp_and, wp_or, wp_if, wp_mBl, wp_nil, wp_cons, wp_tup, wp_lst, wp_lstS, wp_newL_t, wp_newL_f, wp_chain, wp_call, wp_fn, wp_sl, wp_noPart, wp_part, wp_comp, wp_yes, wp_iL, wp_iA, wp_srcL, wp_srcS, wp_srcAL, wp_srcAT, wp_iR1, wp_iR2, wp_rng1, wp_rng2, wp_iRv, wp_srcRL, wp_srcRT, wp_iEA, wp_srcEL, wp_srcET, wp_add, wp_sub, wp_mul, wp_mod, wp_div, wp_divW, wp_pow18, wp_pow17, wp_pow16, wp_pow30, wp_eqI, wp_neI, wp_cmpI, wp_isN, wp_isNotN, wp_lenL, wp_lenT, wp_abs, wp_int, wp_min2, wp_max2, wp_listL, wp_listT, wp_tupleL, wp_tupleT, wp_ixT0, wp_ixT1, wp_ixL0, wp_neg, wp_ok, wp_srcEL, wp_isB, wp_isNotB, wp_eqB, wp_neB, wp_all, wp_any, wp_slT, wp_slL, wp_rev, wp_revT, wp_revL, wp_disp, wp_pair, wp_pair0, wp_dict0, wipeW, List.foldl_cons, List.foldl_nil, wp_run, List.map, List.length, List.replicate, List.cons_append, List.nil_append, List.append_nil, List.set_cons_zero, List.set_cons_succ, if_true, if_false, Bool.not_true, Bool.not_false, Bool.true_eq_false, Bool.false_eq_true, Nat.reduceAdd, Nat.reduceSub, gName', wp_fldF, ws_fld, wp_lm, wp_din, wp_dget2, wp_dset2, wp_dpop, wp_newD, ws_raise, ws_nxE, ws_par, wp_make, wp_meth, wp_newL_f, wp_newL_t, wp_iT, Option.some.injEq, exists_eq_left', wp_stR e2]
    exact ⟨by trivial, p, hp, w1.book F2 g2⟩
  rintro _ s1 ⟨rfl, p, hp, w1⟩
  obtain ⟨l, wv, M, F, _⟩ := w1.gB
  unfold EnvG
  rw [ws_par]
  simp only [ws_seq, ws_if, ws_set, ws_sub, ws_ret, ws_retN, ws_expr, ws_sNx, ws_for, wp_op, wp_var0, wp_varS, wp_c, wp_mB, wp_toB, wp_tr, wp_trB_bl, wp_trB_non, wp_trB_int, wp_not, wp_and, wp_or, wp_if, wp_mBl, wp_nil, wp_cons, wp_tup, wp_lst, wp_lstS, wp_newL_t, wp_newL_f, wp_chain, wp_call, wp_fn, wp_sl, wp_noPart, wp_part, wp_comp, wp_yes, wp_iL, wp_iA, wp_srcL, wp_srcS, wp_srcAL, wp_srcAT, wp_iR1, wp_iR2, wp_rng1, wp_rng2, wp_iRv, wp_srcRL, wp_srcRT, wp_iEA, wp_srcEL, wp_srcET, wp_add, wp_sub, wp_mul, wp_mod, wp_div, wp_divW, wp_pow18, wp_pow17, wp_pow16, wp_pow30, wp_eqI, wp_neI, wp_cmpI, wp_isN, wp_isNotN, wp_lenL, wp_lenT, wp_abs, wp_int, wp_min2, wp_max2, wp_listL, wp_listT, wp_tupleL, wp_tupleT, wp_ixT0, wp_ixT1, wp_ixL0, wp_neg, wp_ok, wp_srcEL, wp_isB, wp_isNotB, wp_eqB, wp_neB, wp_all, wp_any, wp_slT, wp_slL, wp_rev, wp_revT, wp_revL, wp_disp, wp_pair, wp_pair0, wp_dict0, wipeW, List.foldl_cons, List.foldl_nil, wp_run, List.map, List.length, List.replicate, List.cons_append, List.nil_append, List.append_nil, List.set_cons_zero, List.set_cons_succ, if_true, if_false, Bool.not_true, Bool.not_false, Bool.true_eq_false, Bool.false_eq_true, Nat.reduceAdd, Nat.reduceSub, gName', wp_fldF, ws_fld, wp_lm, wp_din, wp_dget2, wp_dset2, wp_dpop, wp_newD, ws_raise, ws_nxE, ws_par, wp_make, wp_meth, wp_newL_f, wp_newL_t, wp_iT, Option.some.injEq, exists_eq_left']
  refine wp_word w1.gT ?_
  simp only [ws_seq, ws_if, ws_set, ws_sub, ws_ret, ws_retN, ws_expr, ws_sNx, ws_for, wp_op, wp_var0, wp_varS, wp_c, wp_mB, wp_toB, wp_tr, wp_trB_bl, wp_trB_non, wp_trB_int, wp_not, wp_and, wp_or, wp_if, wp_mBl, wp_nil, wp_cons, wp_tup, wp_lst, wp_lstS, wp_newL_t, wp_newL_f, wp_chain, wp_call, wp_fn, wp_sl, wp_noPart, wp_part, wp_comp, wp_yes, wp_iL, wp_iA, wp_srcL, wp_srcS, wp_srcAL, wp_srcAT, wp_iR1, wp_iR2, wp_rng1, wp_rng2, wp_iRv, wp_srcRL, wp_srcRT, wp_iEA, wp_srcEL, wp_srcET, wp_add, wp_sub, wp_mul, wp_mod, wp_div, wp_divW, wp_pow18, wp_pow17, wp_pow16, wp_pow30, wp_eqI, wp_neI, wp_cmpI, wp_isN, wp_isNotN, wp_lenL, wp_lenT, wp_abs, wp_int, wp_min2, wp_max2, wp_listL, wp_listT, wp_tupleL, wp_tupleT, wp_ixT0, wp_ixT1, wp_ixL0, wp_neg, wp_ok, wp_srcEL, wp_isB, wp_isNotB, wp_eqB, wp_neB, wp_all, wp_any, wp_slT, wp_slL, wp_rev, wp_revT, wp_revL, wp_disp, wp_pair, wp_pair0, wp_dict0, wipeW, List.foldl_cons, List.foldl_nil, wp_run, List.map, List.length, List.replicate, List.cons_append, List.nil_append, List.append_nil, List.set_cons_zero, List.set_cons_succ, if_true, if_false, Bool.not_true, Bool.not_false, Bool.true_eq_false, Bool.false_eq_true, Nat.reduceAdd, Nat.reduceSub, gName', wp_fldF, ws_fld, wp_lm, wp_din, wp_dget2, wp_dset2, wp_dpop, wp_newD, ws_raise, ws_nxE, ws_par, wp_make, wp_meth, wp_newL_f, wp_newL_t, wp_iT, Option.some.injEq, exists_eq_left', fun r => meth_k (m := "power") (r := r) w1.gD, b_p F.hb]
  refine wp_mono (power_ok w1.gD p hp) ?_ (fun _ _ z => z.elim)
  rintro _ s2 ⟨rfl, D2, g2⟩
  exact ⟨_, _, _, _, _, .non, rfl, .inl rfl, A.power p, o1, o2, w1.disk D2 g2, I.power fun i e => (hp i e).1⟩
/-- all that waits, of a lot -/
theorem bc_ok (w : Wd (WorldG h d k A A o1 o2 R) s) (I : AccI U B m A) : ws (bcK (EnvG h d k (some1.map W.int) a b c e f g i) s) (Alike h d k U B m R (some1.map W.int)) FR FB FB FX := by
  unfold bcK
  have co := calm_ok w.gD I.ok.short
  rw [ws_seq]
  refine ws_nx (N := fun e' s' => e' = EnvG h d k (some1.map W.int) a b c (some (if (A.force A.keys).2 = true then .non else .str "stopped")) f g i ∧ ∃ o2, Wd (WorldG h d k A (A.force A.keys).1 o1 o2 R) s') ?_ ?_
  · obtain ⟨l, wv, M, F, eo⟩ := w.gB
    have F0 := w.gB
    unfold EnvG
    simp only [ws_seq, ws_if, ws_set, ws_sub, ws_ret, ws_retN, ws_expr, ws_sNx, ws_for, wp_op, wp_var0, wp_varS, wp_c, wp_mB, wp_toB, wp_tr, wp_trB_bl, wp_trB_non, wp_trB_int, wp_not, wp_and, wp_or, wp_if, wp_mBl, wp_nil, wp_cons, wp_tup, wp_lst, wp_lstS, wp_newL_t, wp_newL_f, wp_chain, wp_call, wp_fn, wp_sl, wp_noPart, wp_part, wp_comp, wp_yes, wp_iL, wp_iA, wp_srcL, wp_srcS, wp_srcAL, wp_srcAT, wp_iR1, wp_iR2, wp_rng1, wp_rng2, wp_iRv, wp_srcRL, wp_srcRT, wp_iEA, wp_srcEL, wp_srcET, wp_add, wp_sub, wp_mul, wp_mod, wp_div, wp_divW, wp_pow18, wp_pow17, wp_pow16, wp_pow30, wp_eqI, wp_neI, wp_cmpI, wp_isN, wp_isNotN, wp_lenL, wp_lenT, wp_abs, wp_int, wp_min2, wp_max2, wp_listL, wp_listT, wp_tupleL, wp_tupleT, wp_ixT0, wp_ixT1, wp_ixL0, wp_neg, wp_ok, wp_srcEL, wp_isB, wp_isNotB, wp_eqB, wp_neB, wp_all, wp_any, wp_slT, wp_slL, wp_rev, wp_revT, wp_revL, wp_disp, wp_pair, wp_pair0, wp_dict0, wipeW, List.foldl_cons, List.foldl_nil, wp_run, List.map, List.length, List.replicate, List.cons_append, List.nil_append, List.append_nil, List.set_cons_zero, List.set_cons_succ, if_true, if_false, Bool.not_true, Bool.not_false, Bool.true_eq_false, Bool.false_eq_true, Nat.reduceAdd, Nat.reduceSub, gName', wp_fldF, ws_fld, wp_lm, wp_din, wp_dget2, wp_dset2, wp_dpop, wp_newD, ws_raise, ws_nxE, ws_par, wp_make, wp_meth, wp_newL_f, wp_newL_t, wp_iT, Option.some.injEq, exists_eq_left', b_w F.hb, wp_sortedD F.hw (kmapB F) (by rw [List.length_map]; exact F.fewM), F.keys]
    refine wp_no (forced_ok F0 (.inl rfl) I.ok.short) ?_
    rintro _ s1 ⟨rfl, F1, g1⟩
    simp only [ws_seq, ws_if, ws_set, ws_sub, ws_ret, ws_retN, ws_expr, ws_sNx, ws_for, wp_op, wp_var0, wp_varS, wp_c, wp_mB, wp_toB, wp_tr, wp_trB_bl, wp_trB_non, wp_trB_int, wp_not, wp_and, wp_or, wp_if, wp_mBl, wp_nil, wp_cons, wp_tup, wp_lst, wp_lstS, wp_newL_t, wp_newL_f, wp_chain, wp_call, wp_fn, wp_sl, wp_noPart, wp_part, wp_comp, wp_yes, wp_iL, wp_iA, wp_srcL, wp_srcS, wp_srcAL, wp_srcAT, wp_iR1, wp_iR2, wp_rng1, wp_rng2, wp_iRv, wp_srcRL, wp_srcRT, wp_iEA, wp_srcEL, wp_srcET, wp_add, wp_sub, wp_mul, wp_mod, wp_div, wp_divW, wp_pow18, wp_pow17, wp_pow16, wp_pow30, wp_eqI, wp_neI, wp_cmpI, wp_isN, wp_isNotN, wp_lenL, wp_lenT, wp_abs, wp_int, wp_min2, wp_max2, wp_listL, wp_listT, wp_tupleL, wp_tupleT, wp_ixT0, wp_ixT1, wp_ixL0, wp_neg, wp_ok, wp_srcEL, wp_isB, wp_isNotB, wp_eqB, wp_neB, wp_all, wp_any, wp_slT, wp_slL, wp_rev, wp_revT, wp_revL, wp_disp, wp_pair, wp_pair0, wp_dict0, wipeW, List.foldl_cons, List.foldl_nil, wp_run, List.map, List.length, List.replicate, List.cons_append, List.nil_append, List.append_nil, List.set_cons_zero, List.set_cons_succ, if_true, if_false, Bool.not_true, Bool.not_false, Bool.true_eq_false, Bool.false_eq_true, Nat.reduceAdd, Nat.reduceSub, gName', wp_fldF, ws_fld, wp_lm, wp_din, wp_dget2, wp_dset2, wp_dpop, wp_newD, ws_raise, ws_nxE, ws_par, wp_make, wp_meth, wp_newL_f, wp_newL_t, wp_iT, Option.some.injEq, exists_eq_left']
    cases (A.force A.keys).2
    · simp only [ws_seq, ws_if, ws_set, ws_sub, ws_ret, ws_retN, ws_expr, ws_sNx, ws_for, wp_op, wp_var0, wp_varS, wp_c, wp_mB, wp_toB, wp_tr, wp_trB_bl, wp_trB_non, wp_trB_int, wp_not, wp_and, wp_or, wp_if, wp_mBl, wp_nil, wp_cons, wp_tup, wp_lst, wp_lstS, wp_newL_t, wp_newL_f, wp_chain, wp_call, wp_fn, wp_sl, wp_noPart, wp_part, wp_comp, wp_yes, wp_iL, wp_iA, wp_srcL, wp_srcS, wp_srcAL, wp_srcAT, wp_iR1, wp_iR2, wp_rng1, wp_rng2, wp_iRv, wp_srcRL, wp_srcRT, wp_iEA, wp_srcEL, wp_srcET, wp_add, wp_sub, wp_mul, wp_mod, wp_div, wp_divW, wp_pow18, wp_pow17, wp_pow16, wp_pow30, wp_eqI, wp_neI, wp_cmpI, wp_isN, wp_isNotN, wp_lenL, wp_lenT, wp_abs, wp_int, wp_min2, wp_max2, wp_listL, wp_listT, wp_tupleL, wp_tupleT, wp_ixT0, wp_ixT1, wp_ixL0, wp_neg, wp_ok, wp_srcEL, wp_isB, wp_isNotB, wp_eqB, wp_neB, wp_all, wp_any, wp_slT, wp_slL, wp_rev, wp_revT, wp_revL, wp_disp, wp_pair, wp_pair0, wp_dict0, wipeW, List.foldl_cons, List.foldl_nil, wp_run, List.map, List.length, List.replicate, List.cons_append, List.nil_append, List.append_nil, List.set_cons_zero, List.set_cons_succ, if_true, if_false, Bool.not_true, Bool.not_false, Bool.true_eq_false, Bool.false_eq_true, Nat.reduceAdd, Nat.reduceSub, gName', wp_fldF, ws_fld, wp_lm, wp_din, wp_dget2, wp_dset2, wp_dpop, wp_newD, ws_raise, ws_nxE, ws_par, wp_make, wp_meth, wp_newL_f, wp_newL_t, wp_iT, Option.some.injEq, exists_eq_left']
      exact ⟨by trivial, o2, w.book F1 g1⟩
    · simp only [ws_seq, ws_if, ws_set, ws_sub, ws_ret, ws_retN, ws_expr, ws_sNx, ws_for, wp_op, wp_var0, wp_varS, wp_c, wp_mB, wp_toB, wp_tr, wp_trB_bl, wp_trB_non, wp_trB_int, wp_not, wp_and, wp_or, wp_if, wp_mBl, wp_nil, wp_cons, wp_tup, wp_lst, wp_lstS, wp_newL_t, wp_newL_f, wp_chain, wp_call, wp_fn, wp_sl, wp_noPart, wp_part, wp_comp, wp_yes, wp_iL, wp_iA, wp_srcL, wp_srcS, wp_srcAL, wp_srcAT, wp_iR1, wp_iR2, wp_rng1, wp_rng2, wp_iRv, wp_srcRL, wp_srcRT, wp_iEA, wp_srcEL, wp_srcET, wp_add, wp_sub, wp_mul, wp_mod, wp_div, wp_divW, wp_pow18, wp_pow17, wp_pow16, wp_pow30, wp_eqI, wp_neI, wp_cmpI, wp_isN, wp_isNotN, wp_lenL, wp_lenT, wp_abs, wp_int, wp_min2, wp_max2, wp_listL, wp_listT, wp_tupleL, wp_tupleT, wp_ixT0, wp_ixT1, wp_ixL0, wp_neg, wp_ok, wp_srcEL, wp_isB, wp_isNotB, wp_eqB, wp_neB, wp_all, wp_any, wp_slT, wp_slL, wp_rev, wp_revT, wp_revL, wp_disp, wp_pair, wp_pair0, wp_dict0, wipeW, List.foldl_cons, List.foldl_nil, wp_run, List.map, List.length, List.replicate, List.cons_append, List.nil_append, List.append_nil, List.set_cons_zero, List.set_cons_succ, if_true, if_false, Bool.not_true, Bool.not_false, Bool.true_eq_false, Bool.false_eq_true, Nat.reduceAdd, Nat.reduceSub, gName', wp_fldF, ws_fld, wp_lm, wp_din, wp_dget2, wp_dset2, wp_dpop, wp_newD, ws_raise, ws_nxE, ws_par, wp_make, wp_meth, wp_newL_f, wp_newL_t, wp_iT, Option.some.injEq, exists_eq_left']
      exact ⟨by trivial, o2, w.book F1 g1⟩
  rintro _ s1 ⟨rfl, o2, w1⟩
  have co := calm_ok w1.gD I.ok.short
  unfold EnvG
  simp only [ws_seq, ws_if, ws_set, ws_sub, ws_ret, ws_retN, ws_expr, ws_sNx, ws_for, wp_op, wp_var0, wp_varS, wp_c, wp_mB, wp_toB, wp_tr, wp_trB_bl, wp_trB_non, wp_trB_int, wp_not, wp_and, wp_or, wp_if, wp_mBl, wp_nil, wp_cons, wp_tup, wp_lst, wp_lstS, wp_newL_t, wp_newL_f, wp_chain, wp_call, wp_fn, wp_sl, wp_noPart, wp_part, wp_comp, wp_yes, wp_iL, wp_iA, wp_srcL, wp_srcS, wp_srcAL, wp_srcAT, wp_iR1, wp_iR2, wp_rng1, wp_rng2, wp_iRv, wp_srcRL, wp_srcRT, wp_iEA, wp_srcEL, wp_srcET, wp_add, wp_sub, wp_mul, wp_mod, wp_div, wp_divW, wp_pow18, wp_pow17, wp_pow16, wp_pow30, wp_eqI, wp_neI, wp_cmpI, wp_isN, wp_isNotN, wp_lenL, wp_lenT, wp_abs, wp_int, wp_min2, wp_max2, wp_listL, wp_listT, wp_tupleL, wp_tupleT, wp_ixT0, wp_ixT1, wp_ixL0, wp_neg, wp_ok, wp_srcEL, wp_isB, wp_isNotB, wp_eqB, wp_neB, wp_all, wp_any, wp_slT, wp_slL, wp_rev, wp_revT, wp_revL, wp_disp, wp_pair, wp_pair0, wp_dict0, wipeW, List.foldl_cons, List.foldl_nil, wp_run, List.map, List.length, List.replicate, List.cons_append, List.nil_append, List.append_nil, List.set_cons_zero, List.set_cons_succ, if_true, if_false, Bool.not_true, Bool.not_false, Bool.true_eq_false, Bool.false_eq_true, Nat.reduceAdd, Nat.reduceSub, gName', wp_fldF, ws_fld, wp_lm, wp_din, wp_dget2, wp_dset2, wp_dpop, wp_newD, ws_raise, ws_nxE, ws_par, wp_make, wp_meth, wp_newL_f, wp_newL_t, wp_iT, Option.some.injEq, exists_eq_left']
  refine wp_word w1.gT ?_
  simp only [ws_seq, ws_if, ws_set, ws_sub, ws_ret, ws_retN, ws_expr, ws_sNx, ws_for, wp_op, wp_var0, wp_varS, wp_c, wp_mB, wp_toB, wp_tr, wp_trB_bl, wp_trB_non, wp_trB_int, wp_not, wp_and, wp_or, wp_if, wp_mBl, wp_nil, wp_cons, wp_tup, wp_lst, wp_lstS, wp_newL_t, wp_newL_f, wp_chain, wp_call, wp_fn, wp_sl, wp_noPart, wp_part, wp_comp, wp_yes, wp_iL, wp_iA, wp_srcL, wp_srcS, wp_srcAL, wp_srcAT, wp_iR1, wp_iR2, wp_rng1, wp_rng2, wp_iRv, wp_srcRL, wp_srcRT, wp_iEA, wp_srcEL, wp_srcET, wp_add, wp_sub, wp_mul, wp_mod, wp_div, wp_divW, wp_pow18, wp_pow17, wp_pow16, wp_pow30, wp_eqI, wp_neI, wp_cmpI, wp_isN, wp_isNotN, wp_lenL, wp_lenT, wp_abs, wp_int, wp_min2, wp_max2, wp_listL, wp_listT, wp_tupleL, wp_tupleT, wp_ixT0, wp_ixT1, wp_ixL0, wp_neg, wp_ok, wp_srcEL, wp_isB, wp_isNotB, wp_eqB, wp_neB, wp_all, wp_any, wp_slT, wp_slL, wp_rev, wp_revT, wp_revL, wp_disp, wp_pair, wp_pair0, wp_dict0, wipeW, List.foldl_cons, List.foldl_nil, wp_run, List.map, List.length, List.replicate, List.cons_append, List.nil_append, List.append_nil, List.set_cons_zero, List.set_cons_succ, if_true, if_false, Bool.not_true, Bool.not_false, Bool.true_eq_false, Bool.false_eq_true, Nat.reduceAdd, Nat.reduceSub, gName', wp_fldF, ws_fld, wp_lm, wp_din, wp_dget2, wp_dset2, wp_dpop, wp_newD, ws_raise, ws_nxE, ws_par, wp_make, wp_meth, wp_newL_f, wp_newL_t, wp_iT, Option.some.injEq, exists_eq_left', fun r => meth_k (m := "calm") (r := r) w1.gD]
  refine wp_mono co ?_ ?_
  · rintro _ s2 ⟨rfl, z, o1', D2, g2⟩
    refine ⟨a, b, c, g, i, .non, ?_, .inl rfl, _, o1', o2, w1.disk D2 g2, I.force _⟩
    rw [if_pos z]
  · rintro x s2 ⟨rfl, z, o1', D2, g2⟩
    refine .inl ⟨rfl, a, b, c, g, i, .str "stopped", ?_, .inr (.inl rfl), _, o1', o2, w1.disk D2 g2, I.force _⟩
    rw [if_neg (by rw [z]; decide)]
end
end Lw
namespace Lw
open PySem L2 Mi
noncomputable def s3K : MS := sIf (mAnd (mB (mOp (wEq) (mVar 8) (mC (.str "stopped")))) (mB (mOp (wEq) (mVar 7) (mC (.str "stopped"))))) (sSeq (sIf (mNot (mTr (mCall r_law_shows (mCons (mVar 1) (mCons (mVar 2) (mCons (mVar 3) (mNil))))))) (sRet (mC (.bl false))) (sNx)) (sSeq (sExpr (mCall r_law_cut (mCons (mVar 2) (mNil)))) (sRet (mOp (wIs) (mLam 0 "_law_deed.<locals>.<lambda>" (fun F cl => mL_law_word F cl) 2 (mMeth [(0, r_Disk_cut)] "cut" (mVar 1) mNil)) (mC .non))))) (sNx)
section
variable {h d k B m : Nat} {U some1 : List Int} {A : Acc} {o1 o2 : List Nat} {R : List Th} {s : Sto} {a b c e f g i : Option W}
theorem b11_ok (w : Wd (WorldG h d k A A o1 o2 R) s) (I : AccI U B m A) (hs : ∀ b ∈ some1, b ∈ U ∧ 0 ≤ b ∧ b < (B : Int)) (hn : some1 ≠ []) (hl : some1.length < 1000) :
    ws (b11K (EnvG h d k (some1.map W.int) a b c e f g i) s) (Alike h d k U B m R (some1.map W.int)) FR FB FB FX := by
  unfold b11K
  rw [ws_seq]
  refine ws_nx (N := fun e' s' => ∃ lot : List Int, e' = EnvG h d k (some1.map W.int) a b c e f (some (.tup (lot.map W.int))) i ∧ lot.Pairwise (· < ·) ∧ (∀ x ∈ lot, x ∈ some1) ∧ Wd (WorldG h d k A A o1 o2 R) s') ?_ ?_
  · unfold EnvG
    simp only [ws_seq, ws_if, ws_set, ws_sub, ws_ret, ws_retN, ws_expr, ws_sNx, ws_for, wp_op, wp_var0, wp_varS, wp_c, wp_mB, wp_toB, wp_tr, wp_trB_bl, wp_trB_non, wp_trB_int, wp_not, wp_and, wp_or, wp_if, wp_mBl, wp_nil, wp_cons, wp_tup, wp_lst, wp_lstS, wp_newL_t, wp_newL_f, wp_chain, wp_call, wp_fn, wp_sl, wp_noPart, wp_part, wp_comp, wp_yes, wp_iL, wp_iA, wp_srcL, wp_srcS, wp_srcAL, wp_srcAT, wp_iR1, wp_iR2, wp_rng1, wp_rng2, wp_iRv, wp_srcRL, wp_srcRT, wp_iEA, wp_srcEL, wp_srcET, wp_add, wp_sub, wp_mul, wp_mod, wp_div, wp_divW, wp_pow18, wp_pow17, wp_pow16, wp_pow30, wp_eqI, wp_neI, wp_cmpI, wp_isN, wp_isNotN, wp_lenL, wp_lenT, wp_abs, wp_int, wp_min2, wp_max2, wp_listL, wp_listT, wp_tupleL, wp_tupleT, wp_ixT0, wp_ixT1, wp_ixL0, wp_neg, wp_ok, wp_srcEL, wp_isB, wp_isNotB, wp_eqB, wp_neB, wp_all, wp_any, wp_slT, wp_slL, wp_rev, wp_revT, wp_revL, wp_disp, wp_pair, wp_pair0, wp_dict0, wipeW, List.foldl_cons, List.foldl_nil, wp_run, List.map, List.length, List.replicate, List.cons_append, List.nil_append, List.append_nil, List.set_cons_zero, List.set_cons_succ, if_true, if_false, Bool.not_true, Bool.not_false, Bool.true_eq_false, Bool.false_eq_true, Nat.reduceAdd, Nat.reduceSub, gName', wp_fldF, ws_fld, wp_lm, wp_din, wp_dget2, wp_dset2, wp_dpop, wp_newD, ws_raise, ws_nxE, ws_par, wp_make, wp_meth, wp_newL_f, wp_newL_t, wp_iT, Option.some.injEq, exists_eq_left']
    refine wp_no (draw1 w.gH (by decide) (by decide)) ?_
    rintro _ s1 ⟨x, n, rfl, x0, x1, rfl, g1⟩
    have w1 := w.hand' g1
    simp only [ws_seq, ws_if, ws_set, ws_sub, ws_ret, ws_retN, ws_expr, ws_sNx, ws_for, wp_op, wp_var0, wp_varS, wp_c, wp_mB, wp_toB, wp_tr, wp_trB_bl, wp_trB_non, wp_trB_int, wp_not, wp_and, wp_or, wp_if, wp_mBl, wp_nil, wp_cons, wp_tup, wp_lst, wp_lstS, wp_newL_t, wp_newL_f, wp_chain, wp_call, wp_fn, wp_sl, wp_noPart, wp_part, wp_comp, wp_yes, wp_iL, wp_iA, wp_srcL, wp_srcS, wp_srcAL, wp_srcAT, wp_iR1, wp_iR2, wp_rng1, wp_rng2, wp_iRv, wp_srcRL, wp_srcRT, wp_iEA, wp_srcEL, wp_srcET, wp_add, wp_sub, wp_mul, wp_mod, wp_div, wp_divW, wp_pow18, wp_pow17, wp_pow16, wp_pow30, wp_eqI, wp_neI, wp_cmpI, wp_isN, wp_isNotN, wp_lenL, wp_lenT, wp_abs, wp_int, wp_min2, wp_max2, wp_listL, wp_listT, wp_tupleL, wp_tupleT, wp_ixT0, wp_ixT1, wp_ixL0, wp_neg, wp_ok, wp_srcEL, wp_isB, wp_isNotB, wp_eqB, wp_neB, wp_all, wp_any, wp_slT, wp_slL, wp_rev, wp_revT, wp_revL, wp_disp, wp_pair, wp_pair0, wp_dict0, wipeW, List.foldl_cons, List.foldl_nil, wp_run, List.map, List.length, List.replicate, List.cons_append, List.nil_append, List.append_nil, List.set_cons_zero, List.set_cons_succ, if_true, if_false, Bool.not_true, Bool.not_false, Bool.true_eq_false, Bool.false_eq_true, Nat.reduceAdd, Nat.reduceSub, gName', wp_fldF, ws_fld, wp_lm, wp_din, wp_dget2, wp_dset2, wp_dpop, wp_newD, ws_raise, ws_nxE, ws_par, wp_make, wp_meth, wp_newL_f, wp_newL_t, wp_iT, Option.some.injEq, exists_eq_left']
    refine ⟨by simp only [Mi.small62, decide_eq_true_eq]; omega, ?_⟩
    refine compS_fix (fun i acc s => (∃ ns : List Int, acc = ns.map W.int ∧ ns.length = i ∧ ∀ y ∈ ns, y ∈ some1) ∧ Wd (WorldG h d k A A o1 o2 R) s) ⟨⟨[], rfl, rfl, by simp⟩, w1⟩ (by rw [rng_len]; simp only [sizeLine]; omega) (fun i acc s z => by
      obtain ⟨⟨ns, rfl, e, _⟩, _⟩ := z
      rw [List.length_map]; omega) (fun i v e acc s z => ?_) (fun acc s z => ?_)
    · obtain ⟨⟨ns, rfl, e1, e2⟩, w2⟩ := z
      refine ⟨_, rfl, ?_⟩
      simp only [ws_seq, ws_if, ws_set, ws_sub, ws_ret, ws_retN, ws_expr, ws_sNx, ws_for, wp_op, wp_var0, wp_varS, wp_c, wp_mB, wp_toB, wp_tr, wp_trB_bl, wp_trB_non, wp_trB_int, wp_not, wp_and, wp_or, wp_if, wp_mBl, wp_nil, wp_cons, wp_tup, wp_lst, wp_lstS, wp_newL_t, wp_newL_f, wp_chain, wp_call, wp_fn, wp_sl, wp_noPart, wp_part, wp_comp, wp_yes, wp_iL, wp_iA, wp_srcL, wp_srcS, wp_srcAL, wp_srcAT, wp_iR1, wp_iR2, wp_rng1, wp_rng2, wp_iRv, wp_srcRL, wp_srcRT, wp_iEA, wp_srcEL, wp_srcET, wp_add, wp_sub, wp_mul, wp_mod, wp_div, wp_divW, wp_pow18, wp_pow17, wp_pow16, wp_pow30, wp_eqI, wp_neI, wp_cmpI, wp_isN, wp_isNotN, wp_lenL, wp_lenT, wp_abs, wp_int, wp_min2, wp_max2, wp_listL, wp_listT, wp_tupleL, wp_tupleT, wp_ixT0, wp_ixT1, wp_ixL0, wp_neg, wp_ok, wp_srcEL, wp_isB, wp_isNotB, wp_eqB, wp_neB, wp_all, wp_any, wp_slT, wp_slL, wp_rev, wp_revT, wp_revL, wp_disp, wp_pair, wp_pair0, wp_dict0, wipeW, List.foldl_cons, List.foldl_nil, wp_run, List.map, List.length, List.replicate, List.cons_append, List.nil_append, List.append_nil, List.set_cons_zero, List.set_cons_succ, if_true, if_false, Bool.not_true, Bool.not_false, Bool.true_eq_false, Bool.false_eq_true, Nat.reduceAdd, Nat.reduceSub, gName', wp_fldF, ws_fld, wp_lm, wp_din, wp_dget2, wp_dset2, wp_dpop, wp_newD, ws_raise, ws_nxE, ws_par, wp_make, wp_meth, wp_newL_f, wp_newL_t, wp_iT, Option.some.injEq, exists_eq_left']
      refine wp_no (any_ok w2.gH (xs := some1.map W.int) (by simpa using hn) (by rw [List.length_map]; omega)) ?_
      rintro v s2 ⟨n2, hv, rfl, g2⟩
      obtain ⟨y, hy, rfl⟩ := List.mem_map.mp hv
      refine ⟨⟨ns ++ [y], by simp, by simp [e1], fun z hz => ?_⟩, w2.hand' g2⟩
      rcases List.mem_append.mp hz with hz | hz
      · exact e2 z hz
      · rw [List.mem_singleton.mp hz]; exact hy
    · obtain ⟨⟨ns, rfl, e1, e2⟩, w2⟩ := z
      rw [rng_len] at e1
      rw [wp_sortset (by omega)]
      simp only [ws_seq, ws_if, ws_set, ws_sub, ws_ret, ws_retN, ws_expr, ws_sNx, ws_for, wp_op, wp_var0, wp_varS, wp_c, wp_mB, wp_toB, wp_tr, wp_trB_bl, wp_trB_non, wp_trB_int, wp_not, wp_and, wp_or, wp_if, wp_mBl, wp_nil, wp_cons, wp_tup, wp_lst, wp_lstS, wp_newL_t, wp_newL_f, wp_chain, wp_call, wp_fn, wp_sl, wp_noPart, wp_part, wp_comp, wp_yes, wp_iL, wp_iA, wp_srcL, wp_srcS, wp_srcAL, wp_srcAT, wp_iR1, wp_iR2, wp_rng1, wp_rng2, wp_iRv, wp_srcRL, wp_srcRT, wp_iEA, wp_srcEL, wp_srcET, wp_add, wp_sub, wp_mul, wp_mod, wp_div, wp_divW, wp_pow18, wp_pow17, wp_pow16, wp_pow30, wp_eqI, wp_neI, wp_cmpI, wp_isN, wp_isNotN, wp_lenL, wp_lenT, wp_abs, wp_int, wp_min2, wp_max2, wp_listL, wp_listT, wp_tupleL, wp_tupleT, wp_ixT0, wp_ixT1, wp_ixL0, wp_neg, wp_ok, wp_srcEL, wp_isB, wp_isNotB, wp_eqB, wp_neB, wp_all, wp_any, wp_slT, wp_slL, wp_rev, wp_revT, wp_revL, wp_disp, wp_pair, wp_pair0, wp_dict0, wipeW, List.foldl_cons, List.foldl_nil, wp_run, List.map, List.length, List.replicate, List.cons_append, List.nil_append, List.append_nil, List.set_cons_zero, List.set_cons_succ, if_true, if_false, Bool.not_true, Bool.not_false, Bool.true_eq_false, Bool.false_eq_true, Nat.reduceAdd, Nat.reduceSub, gName', wp_fldF, ws_fld, wp_lm, wp_din, wp_dget2, wp_dset2, wp_dpop, wp_newD, ws_raise, ws_nxE, ws_par, wp_make, wp_meth, wp_newL_f, wp_newL_t, wp_iT, Option.some.injEq, exists_eq_left']
      exact ⟨setZ ns, rfl, setZ_lt, fun y hy => e2 y (setZ_mem.mp hy), w2⟩
  rintro _ s1 ⟨lot, rfl, hp, hm, w1⟩
  have hb : ∀ b ∈ lot, 0 ≤ b ∧ b < A.B := fun b hb => by rw [I.B']; exact (hs b (hm b hb)).2
  rw [ws_seq]
  refine ws_nx (N := fun e' s' => e' = EnvG h d k (some1.map W.int) a b c (some (if (A.force lot).2 = true then .non else .str "stopped")) f (some (.tup (lot.map W.int))) i ∧ ∃ o2, Wd (WorldG h d k A (A.force lot).1 o1 o2 R) s') ?_ ?_
  · unfold EnvG
    simp only [ws_seq, ws_if, ws_set, ws_sub, ws_ret, ws_retN, ws_expr, ws_sNx, ws_for, wp_op, wp_var0, wp_varS, wp_c, wp_mB, wp_toB, wp_tr, wp_trB_bl, wp_trB_non, wp_trB_int, wp_not, wp_and, wp_or, wp_if, wp_mBl, wp_nil, wp_cons, wp_tup, wp_lst, wp_lstS, wp_newL_t, wp_newL_f, wp_chain, wp_call, wp_fn, wp_sl, wp_noPart, wp_part, wp_comp, wp_yes, wp_iL, wp_iA, wp_srcL, wp_srcS, wp_srcAL, wp_srcAT, wp_iR1, wp_iR2, wp_rng1, wp_rng2, wp_iRv, wp_srcRL, wp_srcRT, wp_iEA, wp_srcEL, wp_srcET, wp_add, wp_sub, wp_mul, wp_mod, wp_div, wp_divW, wp_pow18, wp_pow17, wp_pow16, wp_pow30, wp_eqI, wp_neI, wp_cmpI, wp_isN, wp_isNotN, wp_lenL, wp_lenT, wp_abs, wp_int, wp_min2, wp_max2, wp_listL, wp_listT, wp_tupleL, wp_tupleT, wp_ixT0, wp_ixT1, wp_ixL0, wp_neg, wp_ok, wp_srcEL, wp_isB, wp_isNotB, wp_eqB, wp_neB, wp_all, wp_any, wp_slT, wp_slL, wp_rev, wp_revT, wp_revL, wp_disp, wp_pair, wp_pair0, wp_dict0, wipeW, List.foldl_cons, List.foldl_nil, wp_run, List.map, List.length, List.replicate, List.cons_append, List.nil_append, List.append_nil, List.set_cons_zero, List.set_cons_succ, if_true, if_false, Bool.not_true, Bool.not_false, Bool.true_eq_false, Bool.false_eq_true, Nat.reduceAdd, Nat.reduceSub, gName', wp_fldF, ws_fld, wp_lm, wp_din, wp_dget2, wp_dset2, wp_dpop, wp_newD, ws_raise, ws_nxE, ws_par, wp_make, wp_meth, wp_newL_f, wp_newL_t, wp_iT, Option.some.injEq, exists_eq_left']
    refine wp_no (forced_ok w1.gB (.inr rfl) I.ok.short) ?_
    rintro _ s2 ⟨rfl, F1, g1⟩
    simp only [ws_seq, ws_if, ws_set, ws_sub, ws_ret, ws_retN, ws_expr, ws_sNx, ws_for, wp_op, wp_var0, wp_varS, wp_c, wp_mB, wp_toB, wp_tr, wp_trB_bl, wp_trB_non, wp_trB_int, wp_not, wp_and, wp_or, wp_if, wp_mBl, wp_nil, wp_cons, wp_tup, wp_lst, wp_lstS, wp_newL_t, wp_newL_f, wp_chain, wp_call, wp_fn, wp_sl, wp_noPart, wp_part, wp_comp, wp_yes, wp_iL, wp_iA, wp_srcL, wp_srcS, wp_srcAL, wp_srcAT, wp_iR1, wp_iR2, wp_rng1, wp_rng2, wp_iRv, wp_srcRL, wp_srcRT, wp_iEA, wp_srcEL, wp_srcET, wp_add, wp_sub, wp_mul, wp_mod, wp_div, wp_divW, wp_pow18, wp_pow17, wp_pow16, wp_pow30, wp_eqI, wp_neI, wp_cmpI, wp_isN, wp_isNotN, wp_lenL, wp_lenT, wp_abs, wp_int, wp_min2, wp_max2, wp_listL, wp_listT, wp_tupleL, wp_tupleT, wp_ixT0, wp_ixT1, wp_ixL0, wp_neg, wp_ok, wp_srcEL, wp_isB, wp_isNotB, wp_eqB, wp_neB, wp_all, wp_any, wp_slT, wp_slL, wp_rev, wp_revT, wp_revL, wp_disp, wp_pair, wp_pair0, wp_dict0, wipeW, List.foldl_cons, List.foldl_nil, wp_run, List.map, List.length, List.replicate, List.cons_append, List.nil_append, List.append_nil, List.set_cons_zero, List.set_cons_succ, if_true, if_false, Bool.not_true, Bool.not_false, Bool.true_eq_false, Bool.false_eq_true, Nat.reduceAdd, Nat.reduceSub, gName', wp_fldF, ws_fld, wp_lm, wp_din, wp_dget2, wp_dset2, wp_dpop, wp_newD, ws_raise, ws_nxE, ws_par, wp_make, wp_meth, wp_newL_f, wp_newL_t, wp_iT, Option.some.injEq, exists_eq_left']
    cases (A.force lot).2
    · simp only [ws_seq, ws_if, ws_set, ws_sub, ws_ret, ws_retN, ws_expr, ws_sNx, ws_for, wp_op, wp_var0, wp_varS, wp_c, wp_mB, wp_toB, wp_tr, wp_trB_bl, wp_trB_non, wp_trB_int, wp_not, wp_and, wp_or, wp_if, wp_mBl, wp_nil, wp_cons, wp_tup, wp_lst, wp_lstS, wp_newL_t, wp_newL_f, wp_chain, wp_call, wp_fn, wp_sl, wp_noPart, wp_part, wp_comp, wp_yes, wp_iL, wp_iA, wp_srcL, wp_srcS, wp_srcAL, wp_srcAT, wp_iR1, wp_iR2, wp_rng1, wp_rng2, wp_iRv, wp_srcRL, wp_srcRT, wp_iEA, wp_srcEL, wp_srcET, wp_add, wp_sub, wp_mul, wp_mod, wp_div, wp_divW, wp_pow18, wp_pow17, wp_pow16, wp_pow30, wp_eqI, wp_neI, wp_cmpI, wp_isN, wp_isNotN, wp_lenL, wp_lenT, wp_abs, wp_int, wp_min2, wp_max2, wp_listL, wp_listT, wp_tupleL, wp_tupleT, wp_ixT0, wp_ixT1, wp_ixL0, wp_neg, wp_ok, wp_srcEL, wp_isB, wp_isNotB, wp_eqB, wp_neB, wp_all, wp_any, wp_slT, wp_slL, wp_rev, wp_revT, wp_revL, wp_disp, wp_pair, wp_pair0, wp_dict0, wipeW, List.foldl_cons, List.foldl_nil, wp_run, List.map, List.length, List.replicate, List.cons_append, List.nil_append, List.append_nil, List.set_cons_zero, List.set_cons_succ, if_true, if_false, Bool.not_true, Bool.not_false, Bool.true_eq_false, Bool.false_eq_true, Nat.reduceAdd, Nat.reduceSub, gName', wp_fldF, ws_fld, wp_lm, wp_din, wp_dget2, wp_dset2, wp_dpop, wp_newD, ws_raise, ws_nxE, ws_par, wp_make, wp_meth, wp_newL_f, wp_newL_t, wp_iT, Option.some.injEq, exists_eq_left']
      exact ⟨by trivial, o2, w1.book F1 g1⟩
    · simp only [ws_seq, ws_if, ws_set, ws_sub, ws_ret, ws_retN, ws_expr, ws_sNx, ws_for, wp_op, wp_var0, wp_varS, wp_c, wp_mB, wp_toB, wp_tr, wp_trB_bl, wp_trB_non, wp_trB_int, wp_not, wp_and, wp_or, wp_if, wp_mBl, wp_nil, wp_cons, wp_tup, wp_lst, wp_lstS, wp_newL_t, wp_newL_f, wp_chain, wp_call, wp_fn, wp_sl, wp_noPart, wp_part, wp_comp, wp_yes, wp_iL, wp_iA, wp_srcL, wp_srcS, wp_srcAL, wp_srcAT, wp_iR1, wp_iR2, wp_rng1, wp_rng2, wp_iRv, wp_srcRL, wp_srcRT, wp_iEA, wp_srcEL, wp_srcET, wp_add, wp_sub, wp_mul, wp_mod, wp_div, wp_divW, wp_pow18, wp_pow17, wp_pow16, wp_pow30, wp_eqI, wp_neI, wp_cmpI, wp_isN, wp_isNotN, wp_lenL, wp_lenT, wp_abs, wp_int, wp_min2, wp_max2, wp_listL, wp_listT, wp_tupleL, wp_tupleT, wp_ixT0, wp_ixT1, wp_ixL0, wp_neg, wp_ok, wp_srcEL, wp_isB, wp_isNotB, wp_eqB, wp_neB, wp_all, wp_any, wp_slT, wp_slL, wp_rev, wp_revT, wp_revL, wp_disp, wp_pair, wp_pair0, wp_dict0, wipeW, List.foldl_cons, List.foldl_nil, wp_run, List.map, List.length, List.replicate, List.cons_append, List.nil_append, List.append_nil, List.set_cons_zero, List.set_cons_succ, if_true, if_false, Bool.not_true, Bool.not_false, Bool.true_eq_false, Bool.false_eq_true, Nat.reduceAdd, Nat.reduceSub, gName', wp_fldF, ws_fld, wp_lm, wp_din, wp_dget2, wp_dset2, wp_dpop, wp_newD, ws_raise, ws_nxE, ws_par, wp_make, wp_meth, wp_newL_f, wp_newL_t, wp_iT, Option.some.injEq, exists_eq_left']
      exact ⟨by trivial, o2, w1.book F1 g1⟩
  rintro _ s2 ⟨rfl, o2, w2⟩
  unfold EnvG
  simp only [ws_seq, ws_if, ws_set, ws_sub, ws_ret, ws_retN, ws_expr, ws_sNx, ws_for, wp_op, wp_var0, wp_varS, wp_c, wp_mB, wp_toB, wp_tr, wp_trB_bl, wp_trB_non, wp_trB_int, wp_not, wp_and, wp_or, wp_if, wp_mBl, wp_nil, wp_cons, wp_tup, wp_lst, wp_lstS, wp_newL_t, wp_newL_f, wp_chain, wp_call, wp_fn, wp_sl, wp_noPart, wp_part, wp_comp, wp_yes, wp_iL, wp_iA, wp_srcL, wp_srcS, wp_srcAL, wp_srcAT, wp_iR1, wp_iR2, wp_rng1, wp_rng2, wp_iRv, wp_srcRL, wp_srcRT, wp_iEA, wp_srcEL, wp_srcET, wp_add, wp_sub, wp_mul, wp_mod, wp_div, wp_divW, wp_pow18, wp_pow17, wp_pow16, wp_pow30, wp_eqI, wp_neI, wp_cmpI, wp_isN, wp_isNotN, wp_lenL, wp_lenT, wp_abs, wp_int, wp_min2, wp_max2, wp_listL, wp_listT, wp_tupleL, wp_tupleT, wp_ixT0, wp_ixT1, wp_ixL0, wp_neg, wp_ok, wp_srcEL, wp_isB, wp_isNotB, wp_eqB, wp_neB, wp_all, wp_any, wp_slT, wp_slL, wp_rev, wp_revT, wp_revL, wp_disp, wp_pair, wp_pair0, wp_dict0, wipeW, List.foldl_cons, List.foldl_nil, wp_run, List.map, List.length, List.replicate, List.cons_append, List.nil_append, List.append_nil, List.set_cons_zero, List.set_cons_succ, if_true, if_false, Bool.not_true, Bool.not_false, Bool.true_eq_false, Bool.false_eq_true, Nat.reduceAdd, Nat.reduceSub, gName', wp_fldF, ws_fld, wp_lm, wp_din, wp_dget2, wp_dset2, wp_dpop, wp_newD, ws_raise, ws_nxE, ws_par, wp_make, wp_meth, wp_newL_f, wp_newL_t, wp_iT, Option.some.injEq, exists_eq_left']
  refine wp_word w2.gT ?_
  simp only [ws_seq, ws_if, ws_set, ws_sub, ws_ret, ws_retN, ws_expr, ws_sNx, ws_for, wp_op, wp_var0, wp_varS, wp_c, wp_mB, wp_toB, wp_tr, wp_trB_bl, wp_trB_non, wp_trB_int, wp_not, wp_and, wp_or, wp_if, wp_mBl, wp_nil, wp_cons, wp_tup, wp_lst, wp_lstS, wp_newL_t, wp_newL_f, wp_chain, wp_call, wp_fn, wp_sl, wp_noPart, wp_part, wp_comp, wp_yes, wp_iL, wp_iA, wp_srcL, wp_srcS, wp_srcAL, wp_srcAT, wp_iR1, wp_iR2, wp_rng1, wp_rng2, wp_iRv, wp_srcRL, wp_srcRT, wp_iEA, wp_srcEL, wp_srcET, wp_add, wp_sub, wp_mul, wp_mod, wp_div, wp_divW, wp_pow18, wp_pow17, wp_pow16, wp_pow30, wp_eqI, wp_neI, wp_cmpI, wp_isN, wp_isNotN, wp_lenL, wp_lenT, wp_abs, wp_int, wp_min2, wp_max2, wp_listL, wp_listT, wp_tupleL, wp_tupleT, wp_ixT0, wp_ixT1, wp_ixL0, wp_neg, wp_ok, wp_srcEL, wp_isB, wp_isNotB, wp_eqB, wp_neB, wp_all, wp_any, wp_slT, wp_slL, wp_rev, wp_revT, wp_revL, wp_disp, wp_pair, wp_pair0, wp_dict0, wipeW, List.foldl_cons, List.foldl_nil, wp_run, List.map, List.length, List.replicate, List.cons_append, List.nil_append, List.append_nil, List.set_cons_zero, List.set_cons_succ, if_true, if_false, Bool.not_true, Bool.not_false, Bool.true_eq_false, Bool.false_eq_true, Nat.reduceAdd, Nat.reduceSub, gName', wp_fldF, ws_fld, wp_lm, wp_din, wp_dget2, wp_dset2, wp_dpop, wp_newD, ws_raise, ws_nxE, ws_par, wp_make, wp_meth, wp_newL_f, wp_newL_t, wp_iT, Option.some.injEq, exists_eq_left', fun r => meth_k (m := "force") (r := r) w2.gD]
  refine wp_mono (force_ok w2.gD hp hb I.ok.short) ?_ ?_
  · rintro _ s3 ⟨rfl, z, o1', D2, g2⟩
    refine ⟨a, b, c, some (.tup (lot.map W.int)), i, .non, ?_, .inl rfl, _, o1', o2, w2.disk D2 g2, I.force _⟩
    rw [if_pos z]
  · rintro x s3 ⟨rfl, z, o1', D2, g2⟩
    refine .inl ⟨rfl, a, b, c, some (.tup (lot.map W.int)), i, .str "stopped", ?_, .inr (.inl rfl), _, o1', o2, w2.disk D2 g2, I.force _⟩
    rw [if_neg (by rw [z]; decide)]
theorem b9_ok {b0 : Int} (w : Wd (WorldG h d k A A o1 o2 R) s) (I : AccI U B m A) (h0 : 0 ≤ b0) (h1 : b0 < (B : Int)) :
    ws (b9K (EnvG h d k (some1.map W.int) a (some (.int b0)) c e f g i) s) (Alike h d k U B m R (some1.map W.int)) FR FB FB FX := by
  have hB : b0 < (A.B : Int) := by rw [I.B']; exact h1
  unfold b9K
  rw [ws_seq]
  refine ws_nx (N := fun e' s' => e' = EnvG h d k (some1.map W.int) a (some (.int b0)) c (some (.str "nothing")) f g i ∧ s' = s) ?_ ?_
  · unfold EnvG
    simp only [ws_seq, ws_if, ws_set, ws_sub, ws_ret, ws_retN, ws_expr, ws_sNx, ws_for, wp_op, wp_var0, wp_varS, wp_c, wp_mB, wp_toB, wp_tr, wp_trB_bl, wp_trB_non, wp_trB_int, wp_not, wp_and, wp_or, wp_if, wp_mBl, wp_nil, wp_cons, wp_tup, wp_lst, wp_lstS, wp_newL_t, wp_newL_f, wp_chain, wp_call, wp_fn, wp_sl, wp_noPart, wp_part, wp_comp, wp_yes, wp_iL, wp_iA, wp_srcL, wp_srcS, wp_srcAL, wp_srcAT, wp_iR1, wp_iR2, wp_rng1, wp_rng2, wp_iRv, wp_srcRL, wp_srcRT, wp_iEA, wp_srcEL, wp_srcET, wp_add, wp_sub, wp_mul, wp_mod, wp_div, wp_divW, wp_pow18, wp_pow17, wp_pow16, wp_pow30, wp_eqI, wp_neI, wp_cmpI, wp_isN, wp_isNotN, wp_lenL, wp_lenT, wp_abs, wp_int, wp_min2, wp_max2, wp_listL, wp_listT, wp_tupleL, wp_tupleT, wp_ixT0, wp_ixT1, wp_ixL0, wp_neg, wp_ok, wp_srcEL, wp_isB, wp_isNotB, wp_eqB, wp_neB, wp_all, wp_any, wp_slT, wp_slL, wp_rev, wp_revT, wp_revL, wp_disp, wp_pair, wp_pair0, wp_dict0, wipeW, List.foldl_cons, List.foldl_nil, wp_run, List.map, List.length, List.replicate, List.cons_append, List.nil_append, List.append_nil, List.set_cons_zero, List.set_cons_succ, if_true, if_false, Bool.not_true, Bool.not_false, Bool.true_eq_false, Bool.false_eq_true, Nat.reduceAdd, Nat.reduceSub, gName', wp_fldF, ws_fld, wp_lm, wp_din, wp_dget2, wp_dset2, wp_dpop, wp_newD, ws_raise, ws_nxE, ws_par, wp_make, wp_meth, wp_newL_f, wp_newL_t, wp_iT, Option.some.injEq, exists_eq_left']
    exact ⟨by trivial, by trivial⟩
  rintro _ s ⟨rfl, rfl⟩
  by_cases z : A.wt b0 = []
  · rw [ws_seq]
    refine ws_nx (N := fun e' s' => e' = EnvG h d k (some1.map W.int) a (some (.int b0)) c (some (.str "nothing")) f g i ∧ s' = s) ?_ ?_
    · obtain ⟨l, wv, M, F, _⟩ := w.gB
      unfold EnvG
      simp only [ws_seq, ws_if, ws_set, ws_sub, ws_ret, ws_retN, ws_expr, ws_sNx, ws_for, wp_op, wp_var0, wp_varS, wp_c, wp_mB, wp_toB, wp_tr, wp_trB_bl, wp_trB_non, wp_trB_int, wp_not, wp_and, wp_or, wp_if, wp_mBl, wp_nil, wp_cons, wp_tup, wp_lst, wp_lstS, wp_newL_t, wp_newL_f, wp_chain, wp_call, wp_fn, wp_sl, wp_noPart, wp_part, wp_comp, wp_yes, wp_iL, wp_iA, wp_srcL, wp_srcS, wp_srcAL, wp_srcAT, wp_iR1, wp_iR2, wp_rng1, wp_rng2, wp_iRv, wp_srcRL, wp_srcRT, wp_iEA, wp_srcEL, wp_srcET, wp_add, wp_sub, wp_mul, wp_mod, wp_div, wp_divW, wp_pow18, wp_pow17, wp_pow16, wp_pow30, wp_eqI, wp_neI, wp_cmpI, wp_isN, wp_isNotN, wp_lenL, wp_lenT, wp_abs, wp_int, wp_min2, wp_max2, wp_listL, wp_listT, wp_tupleL, wp_tupleT, wp_ixT0, wp_ixT1, wp_ixL0, wp_neg, wp_ok, wp_srcEL, wp_isB, wp_isNotB, wp_eqB, wp_neB, wp_all, wp_any, wp_slT, wp_slL, wp_rev, wp_revT, wp_revL, wp_disp, wp_pair, wp_pair0, wp_dict0, wipeW, List.foldl_cons, List.foldl_nil, wp_run, List.map, List.length, List.replicate, List.cons_append, List.nil_append, List.append_nil, List.set_cons_zero, List.set_cons_succ, if_true, if_false, Bool.not_true, Bool.not_false, Bool.true_eq_false, Bool.false_eq_true, Nat.reduceAdd, Nat.reduceSub, gName', wp_fldF, ws_fld, wp_lm, wp_din, wp_dget2, wp_dset2, wp_dpop, wp_newD, ws_raise, ws_nxE, ws_par, wp_make, wp_meth, wp_newL_f, wp_newL_t, wp_iT, Option.some.injEq, exists_eq_left', b_w F.hb, wp_dinR F.hw keyi, inW_ok F, z, List.isEmpty_nil]
      exact ⟨by trivial, by trivial⟩
    rintro _ s ⟨rfl, rfl⟩
    unfold EnvG
    simp only [ws_seq, ws_if, ws_set, ws_sub, ws_ret, ws_retN, ws_expr, ws_sNx, ws_for, wp_op, wp_var0, wp_varS, wp_c, wp_mB, wp_toB, wp_tr, wp_trB_bl, wp_trB_non, wp_trB_int, wp_not, wp_and, wp_or, wp_if, wp_mBl, wp_nil, wp_cons, wp_tup, wp_lst, wp_lstS, wp_newL_t, wp_newL_f, wp_chain, wp_call, wp_fn, wp_sl, wp_noPart, wp_part, wp_comp, wp_yes, wp_iL, wp_iA, wp_srcL, wp_srcS, wp_srcAL, wp_srcAT, wp_iR1, wp_iR2, wp_rng1, wp_rng2, wp_iRv, wp_srcRL, wp_srcRT, wp_iEA, wp_srcEL, wp_srcET, wp_add, wp_sub, wp_mul, wp_mod, wp_div, wp_divW, wp_pow18, wp_pow17, wp_pow16, wp_pow30, wp_eqI, wp_neI, wp_cmpI, wp_isN, wp_isNotN, wp_lenL, wp_lenT, wp_abs, wp_int, wp_min2, wp_max2, wp_listL, wp_listT, wp_tupleL, wp_tupleT, wp_ixT0, wp_ixT1, wp_ixL0, wp_neg, wp_ok, wp_srcEL, wp_isB, wp_isNotB, wp_eqB, wp_neB, wp_all, wp_any, wp_slT, wp_slL, wp_rev, wp_revT, wp_revL, wp_disp, wp_pair, wp_pair0, wp_dict0, wipeW, List.foldl_cons, List.foldl_nil, wp_run, List.map, List.length, List.replicate, List.cons_append, List.nil_append, List.append_nil, List.set_cons_zero, List.set_cons_succ, if_true, if_false, Bool.not_true, Bool.not_false, Bool.true_eq_false, Bool.false_eq_true, Nat.reduceAdd, Nat.reduceSub, gName', wp_fldF, ws_fld, wp_lm, wp_din, wp_dget2, wp_dset2, wp_dpop, wp_newD, ws_raise, ws_nxE, ws_par, wp_make, wp_meth, wp_newL_f, wp_newL_t, wp_iT, Option.some.injEq, exists_eq_left']
    refine wp_word w.gT ?_
    simp only [ws_seq, ws_if, ws_set, ws_sub, ws_ret, ws_retN, ws_expr, ws_sNx, ws_for, wp_op, wp_var0, wp_varS, wp_c, wp_mB, wp_toB, wp_tr, wp_trB_bl, wp_trB_non, wp_trB_int, wp_not, wp_and, wp_or, wp_if, wp_mBl, wp_nil, wp_cons, wp_tup, wp_lst, wp_lstS, wp_newL_t, wp_newL_f, wp_chain, wp_call, wp_fn, wp_sl, wp_noPart, wp_part, wp_comp, wp_yes, wp_iL, wp_iA, wp_srcL, wp_srcS, wp_srcAL, wp_srcAT, wp_iR1, wp_iR2, wp_rng1, wp_rng2, wp_iRv, wp_srcRL, wp_srcRT, wp_iEA, wp_srcEL, wp_srcET, wp_add, wp_sub, wp_mul, wp_mod, wp_div, wp_divW, wp_pow18, wp_pow17, wp_pow16, wp_pow30, wp_eqI, wp_neI, wp_cmpI, wp_isN, wp_isNotN, wp_lenL, wp_lenT, wp_abs, wp_int, wp_min2, wp_max2, wp_listL, wp_listT, wp_tupleL, wp_tupleT, wp_ixT0, wp_ixT1, wp_ixL0, wp_neg, wp_ok, wp_srcEL, wp_isB, wp_isNotB, wp_eqB, wp_neB, wp_all, wp_any, wp_slT, wp_slL, wp_rev, wp_revT, wp_revL, wp_disp, wp_pair, wp_pair0, wp_dict0, wipeW, List.foldl_cons, List.foldl_nil, wp_run, List.map, List.length, List.replicate, List.cons_append, List.nil_append, List.append_nil, List.set_cons_zero, List.set_cons_succ, if_true, if_false, Bool.not_true, Bool.not_false, Bool.true_eq_false, Bool.false_eq_true, Nat.reduceAdd, Nat.reduceSub, gName', wp_fldF, ws_fld, wp_lm, wp_din, wp_dget2, wp_dset2, wp_dpop, wp_newD, ws_raise, ws_nxE, ws_par, wp_make, wp_meth, wp_newL_f, wp_newL_t, wp_iT, Option.some.injEq, exists_eq_left', fun r => meth_k (m := "reach") (r := r) w.gD]
    refine wp_mono (reach_none w.gD h0 hB z) (fun _ _ z => z.elim) ?_
    rintro x s2 ⟨rfl, rfl⟩
    exact .inr ⟨rfl, a, some (.int b0), c, g, i, .str "nothing", rfl, .inr (.inr rfl), A, o1, o2, w, I⟩
  · have zf : (A.wt b0).isEmpty = false := isNil_false z
    by_cases p : A.pw = some 0
    · rw [ws_seq]
      refine ws_nx (N := fun e' s' => e' = EnvG h d k (some1.map W.int) a (some (.int b0)) c (some (.str "stopped")) f g i ∧ s' = s) ?_ ?_
      · obtain ⟨l, wv, M, F, _⟩ := w.gB
        unfold EnvG
        simp only [ws_seq, ws_if, ws_set, ws_sub, ws_ret, ws_retN, ws_expr, ws_sNx, ws_for, wp_op, wp_var0, wp_varS, wp_c, wp_mB, wp_toB, wp_tr, wp_trB_bl, wp_trB_non, wp_trB_int, wp_not, wp_and, wp_or, wp_if, wp_mBl, wp_nil, wp_cons, wp_tup, wp_lst, wp_lstS, wp_newL_t, wp_newL_f, wp_chain, wp_call, wp_fn, wp_sl, wp_noPart, wp_part, wp_comp, wp_yes, wp_iL, wp_iA, wp_srcL, wp_srcS, wp_srcAL, wp_srcAT, wp_iR1, wp_iR2, wp_rng1, wp_rng2, wp_iRv, wp_srcRL, wp_srcRT, wp_iEA, wp_srcEL, wp_srcET, wp_add, wp_sub, wp_mul, wp_mod, wp_div, wp_divW, wp_pow18, wp_pow17, wp_pow16, wp_pow30, wp_eqI, wp_neI, wp_cmpI, wp_isN, wp_isNotN, wp_lenL, wp_lenT, wp_abs, wp_int, wp_min2, wp_max2, wp_listL, wp_listT, wp_tupleL, wp_tupleT, wp_ixT0, wp_ixT1, wp_ixL0, wp_neg, wp_ok, wp_srcEL, wp_isB, wp_isNotB, wp_eqB, wp_neB, wp_all, wp_any, wp_slT, wp_slL, wp_rev, wp_revT, wp_revL, wp_disp, wp_pair, wp_pair0, wp_dict0, wipeW, List.foldl_cons, List.foldl_nil, wp_run, List.map, List.length, List.replicate, List.cons_append, List.nil_append, List.append_nil, List.set_cons_zero, List.set_cons_succ, if_true, if_false, Bool.not_true, Bool.not_false, Bool.true_eq_false, Bool.false_eq_true, Nat.reduceAdd, Nat.reduceSub, gName', wp_fldF, ws_fld, wp_lm, wp_din, wp_dget2, wp_dset2, wp_dpop, wp_newD, ws_raise, ws_nxE, ws_par, wp_make, wp_meth, wp_newL_f, wp_newL_t, wp_iT, Option.some.injEq, exists_eq_left', b_w F.hb, wp_dinR F.hw keyi, inW_ok F, zf]
        refine wp_no (bstop_ok w.gB p) ?_
        rintro _ s2 ⟨rfl, rfl⟩
        simp only [ws_seq, ws_if, ws_set, ws_sub, ws_ret, ws_retN, ws_expr, ws_sNx, ws_for, wp_op, wp_var0, wp_varS, wp_c, wp_mB, wp_toB, wp_tr, wp_trB_bl, wp_trB_non, wp_trB_int, wp_not, wp_and, wp_or, wp_if, wp_mBl, wp_nil, wp_cons, wp_tup, wp_lst, wp_lstS, wp_newL_t, wp_newL_f, wp_chain, wp_call, wp_fn, wp_sl, wp_noPart, wp_part, wp_comp, wp_yes, wp_iL, wp_iA, wp_srcL, wp_srcS, wp_srcAL, wp_srcAT, wp_iR1, wp_iR2, wp_rng1, wp_rng2, wp_iRv, wp_srcRL, wp_srcRT, wp_iEA, wp_srcEL, wp_srcET, wp_add, wp_sub, wp_mul, wp_mod, wp_div, wp_divW, wp_pow18, wp_pow17, wp_pow16, wp_pow30, wp_eqI, wp_neI, wp_cmpI, wp_isN, wp_isNotN, wp_lenL, wp_lenT, wp_abs, wp_int, wp_min2, wp_max2, wp_listL, wp_listT, wp_tupleL, wp_tupleT, wp_ixT0, wp_ixT1, wp_ixL0, wp_neg, wp_ok, wp_srcEL, wp_isB, wp_isNotB, wp_eqB, wp_neB, wp_all, wp_any, wp_slT, wp_slL, wp_rev, wp_revT, wp_revL, wp_disp, wp_pair, wp_pair0, wp_dict0, wipeW, List.foldl_cons, List.foldl_nil, wp_run, List.map, List.length, List.replicate, List.cons_append, List.nil_append, List.append_nil, List.set_cons_zero, List.set_cons_succ, if_true, if_false, Bool.not_true, Bool.not_false, Bool.true_eq_false, Bool.false_eq_true, Nat.reduceAdd, Nat.reduceSub, gName', wp_fldF, ws_fld, wp_lm, wp_din, wp_dget2, wp_dset2, wp_dpop, wp_newD, ws_raise, ws_nxE, ws_par, wp_make, wp_meth, wp_newL_f, wp_newL_t, wp_iT, Option.some.injEq, exists_eq_left']
        exact ⟨by trivial, by trivial⟩
      rintro _ s ⟨rfl, rfl⟩
      unfold EnvG
      simp only [ws_seq, ws_if, ws_set, ws_sub, ws_ret, ws_retN, ws_expr, ws_sNx, ws_for, wp_op, wp_var0, wp_varS, wp_c, wp_mB, wp_toB, wp_tr, wp_trB_bl, wp_trB_non, wp_trB_int, wp_not, wp_and, wp_or, wp_if, wp_mBl, wp_nil, wp_cons, wp_tup, wp_lst, wp_lstS, wp_newL_t, wp_newL_f, wp_chain, wp_call, wp_fn, wp_sl, wp_noPart, wp_part, wp_comp, wp_yes, wp_iL, wp_iA, wp_srcL, wp_srcS, wp_srcAL, wp_srcAT, wp_iR1, wp_iR2, wp_rng1, wp_rng2, wp_iRv, wp_srcRL, wp_srcRT, wp_iEA, wp_srcEL, wp_srcET, wp_add, wp_sub, wp_mul, wp_mod, wp_div, wp_divW, wp_pow18, wp_pow17, wp_pow16, wp_pow30, wp_eqI, wp_neI, wp_cmpI, wp_isN, wp_isNotN, wp_lenL, wp_lenT, wp_abs, wp_int, wp_min2, wp_max2, wp_listL, wp_listT, wp_tupleL, wp_tupleT, wp_ixT0, wp_ixT1, wp_ixL0, wp_neg, wp_ok, wp_srcEL, wp_isB, wp_isNotB, wp_eqB, wp_neB, wp_all, wp_any, wp_slT, wp_slL, wp_rev, wp_revT, wp_revL, wp_disp, wp_pair, wp_pair0, wp_dict0, wipeW, List.foldl_cons, List.foldl_nil, wp_run, List.map, List.length, List.replicate, List.cons_append, List.nil_append, List.append_nil, List.set_cons_zero, List.set_cons_succ, if_true, if_false, Bool.not_true, Bool.not_false, Bool.true_eq_false, Bool.false_eq_true, Nat.reduceAdd, Nat.reduceSub, gName', wp_fldF, ws_fld, wp_lm, wp_din, wp_dget2, wp_dset2, wp_dpop, wp_newD, ws_raise, ws_nxE, ws_par, wp_make, wp_meth, wp_newL_f, wp_newL_t, wp_iT, Option.some.injEq, exists_eq_left']
      refine wp_word w.gT ?_
      simp only [ws_seq, ws_if, ws_set, ws_sub, ws_ret, ws_retN, ws_expr, ws_sNx, ws_for, wp_op, wp_var0, wp_varS, wp_c, wp_mB, wp_toB, wp_tr, wp_trB_bl, wp_trB_non, wp_trB_int, wp_not, wp_and, wp_or, wp_if, wp_mBl, wp_nil, wp_cons, wp_tup, wp_lst, wp_lstS, wp_newL_t, wp_newL_f, wp_chain, wp_call, wp_fn, wp_sl, wp_noPart, wp_part, wp_comp, wp_yes, wp_iL, wp_iA, wp_srcL, wp_srcS, wp_srcAL, wp_srcAT, wp_iR1, wp_iR2, wp_rng1, wp_rng2, wp_iRv, wp_srcRL, wp_srcRT, wp_iEA, wp_srcEL, wp_srcET, wp_add, wp_sub, wp_mul, wp_mod, wp_div, wp_divW, wp_pow18, wp_pow17, wp_pow16, wp_pow30, wp_eqI, wp_neI, wp_cmpI, wp_isN, wp_isNotN, wp_lenL, wp_lenT, wp_abs, wp_int, wp_min2, wp_max2, wp_listL, wp_listT, wp_tupleL, wp_tupleT, wp_ixT0, wp_ixT1, wp_ixL0, wp_neg, wp_ok, wp_srcEL, wp_isB, wp_isNotB, wp_eqB, wp_neB, wp_all, wp_any, wp_slT, wp_slL, wp_rev, wp_revT, wp_revL, wp_disp, wp_pair, wp_pair0, wp_dict0, wipeW, List.foldl_cons, List.foldl_nil, wp_run, List.map, List.length, List.replicate, List.cons_append, List.nil_append, List.append_nil, List.set_cons_zero, List.set_cons_succ, if_true, if_false, Bool.not_true, Bool.not_false, Bool.true_eq_false, Bool.false_eq_true, Nat.reduceAdd, Nat.reduceSub, gName', wp_fldF, ws_fld, wp_lm, wp_din, wp_dget2, wp_dset2, wp_dpop, wp_newD, ws_raise, ws_nxE, ws_par, wp_make, wp_meth, wp_newL_f, wp_newL_t, wp_iT, Option.some.injEq, exists_eq_left', fun r => meth_k (m := "reach") (r := r) w.gD]
      refine wp_mono (reach_ok w.gD h0 hB z) ?_ ?_
      · rintro _ s2 ⟨_, q, _⟩
        exact absurd p q
      · rintro x s2 ⟨rfl, _, rfl⟩
        exact .inl ⟨rfl, a, some (.int b0), c, g, i, .str "stopped", rfl, .inr (.inl rfl), A, o1, o2, w, I⟩
    · rw [ws_seq]
      refine ws_nx (N := fun e' s' => e' = EnvG h d k (some1.map W.int) a (some (.int b0)) c (some .non) f g i ∧ Wd (WorldG h d k A (A.step b0) o1 o2 R) s') ?_ ?_
      · obtain ⟨l, wv, M, F, _⟩ := w.gB
        unfold EnvG
        simp only [ws_seq, ws_if, ws_set, ws_sub, ws_ret, ws_retN, ws_expr, ws_sNx, ws_for, wp_op, wp_var0, wp_varS, wp_c, wp_mB, wp_toB, wp_tr, wp_trB_bl, wp_trB_non, wp_trB_int, wp_not, wp_and, wp_or, wp_if, wp_mBl, wp_nil, wp_cons, wp_tup, wp_lst, wp_lstS, wp_newL_t, wp_newL_f, wp_chain, wp_call, wp_fn, wp_sl, wp_noPart, wp_part, wp_comp, wp_yes, wp_iL, wp_iA, wp_srcL, wp_srcS, wp_srcAL, wp_srcAT, wp_iR1, wp_iR2, wp_rng1, wp_rng2, wp_iRv, wp_srcRL, wp_srcRT, wp_iEA, wp_srcEL, wp_srcET, wp_add, wp_sub, wp_mul, wp_mod, wp_div, wp_divW, wp_pow18, wp_pow17, wp_pow16, wp_pow30, wp_eqI, wp_neI, wp_cmpI, wp_isN, wp_isNotN, wp_lenL, wp_lenT, wp_abs, wp_int, wp_min2, wp_max2, wp_listL, wp_listT, wp_tupleL, wp_tupleT, wp_ixT0, wp_ixT1, wp_ixL0, wp_neg, wp_ok, wp_srcEL, wp_isB, wp_isNotB, wp_eqB, wp_neB, wp_all, wp_any, wp_slT, wp_slL, wp_rev, wp_revT, wp_revL, wp_disp, wp_pair, wp_pair0, wp_dict0, wipeW, List.foldl_cons, List.foldl_nil, wp_run, List.map, List.length, List.replicate, List.cons_append, List.nil_append, List.append_nil, List.set_cons_zero, List.set_cons_succ, if_true, if_false, Bool.not_true, Bool.not_false, Bool.true_eq_false, Bool.false_eq_true, Nat.reduceAdd, Nat.reduceSub, gName', wp_fldF, ws_fld, wp_lm, wp_din, wp_dget2, wp_dset2, wp_dpop, wp_newD, ws_raise, ws_nxE, ws_par, wp_make, wp_meth, wp_newL_f, wp_newL_t, wp_iT, Option.some.injEq, exists_eq_left', b_w F.hb, wp_dinR F.hw keyi, inW_ok F, zf]
        refine wp_no (bstep_ok w.gB z p) ?_
        rintro _ s2 ⟨rfl, F2, g2⟩
        simp only [ws_seq, ws_if, ws_set, ws_sub, ws_ret, ws_retN, ws_expr, ws_sNx, ws_for, wp_op, wp_var0, wp_varS, wp_c, wp_mB, wp_toB, wp_tr, wp_trB_bl, wp_trB_non, wp_trB_int, wp_not, wp_and, wp_or, wp_if, wp_mBl, wp_nil, wp_cons, wp_tup, wp_lst, wp_lstS, wp_newL_t, wp_newL_f, wp_chain, wp_call, wp_fn, wp_sl, wp_noPart, wp_part, wp_comp, wp_yes, wp_iL, wp_iA, wp_srcL, wp_srcS, wp_srcAL, wp_srcAT, wp_iR1, wp_iR2, wp_rng1, wp_rng2, wp_iRv, wp_srcRL, wp_srcRT, wp_iEA, wp_srcEL, wp_srcET, wp_add, wp_sub, wp_mul, wp_mod, wp_div, wp_divW, wp_pow18, wp_pow17, wp_pow16, wp_pow30, wp_eqI, wp_neI, wp_cmpI, wp_isN, wp_isNotN, wp_lenL, wp_lenT, wp_abs, wp_int, wp_min2, wp_max2, wp_listL, wp_listT, wp_tupleL, wp_tupleT, wp_ixT0, wp_ixT1, wp_ixL0, wp_neg, wp_ok, wp_srcEL, wp_isB, wp_isNotB, wp_eqB, wp_neB, wp_all, wp_any, wp_slT, wp_slL, wp_rev, wp_revT, wp_revL, wp_disp, wp_pair, wp_pair0, wp_dict0, wipeW, List.foldl_cons, List.foldl_nil, wp_run, List.map, List.length, List.replicate, List.cons_append, List.nil_append, List.append_nil, List.set_cons_zero, List.set_cons_succ, if_true, if_false, Bool.not_true, Bool.not_false, Bool.true_eq_false, Bool.false_eq_true, Nat.reduceAdd, Nat.reduceSub, gName', wp_fldF, ws_fld, wp_lm, wp_din, wp_dget2, wp_dset2, wp_dpop, wp_newD, ws_raise, ws_nxE, ws_par, wp_make, wp_meth, wp_newL_f, wp_newL_t, wp_iT, Option.some.injEq, exists_eq_left']
        exact ⟨by trivial, w.book F2 g2⟩
      rintro _ s2 ⟨rfl, w2⟩
      unfold EnvG
      simp only [ws_seq, ws_if, ws_set, ws_sub, ws_ret, ws_retN, ws_expr, ws_sNx, ws_for, wp_op, wp_var0, wp_varS, wp_c, wp_mB, wp_toB, wp_tr, wp_trB_bl, wp_trB_non, wp_trB_int, wp_not, wp_and, wp_or, wp_if, wp_mBl, wp_nil, wp_cons, wp_tup, wp_lst, wp_lstS, wp_newL_t, wp_newL_f, wp_chain, wp_call, wp_fn, wp_sl, wp_noPart, wp_part, wp_comp, wp_yes, wp_iL, wp_iA, wp_srcL, wp_srcS, wp_srcAL, wp_srcAT, wp_iR1, wp_iR2, wp_rng1, wp_rng2, wp_iRv, wp_srcRL, wp_srcRT, wp_iEA, wp_srcEL, wp_srcET, wp_add, wp_sub, wp_mul, wp_mod, wp_div, wp_divW, wp_pow18, wp_pow17, wp_pow16, wp_pow30, wp_eqI, wp_neI, wp_cmpI, wp_isN, wp_isNotN, wp_lenL, wp_lenT, wp_abs, wp_int, wp_min2, wp_max2, wp_listL, wp_listT, wp_tupleL, wp_tupleT, wp_ixT0, wp_ixT1, wp_ixL0, wp_neg, wp_ok, wp_srcEL, wp_isB, wp_isNotB, wp_eqB, wp_neB, wp_all, wp_any, wp_slT, wp_slL, wp_rev, wp_revT, wp_revL, wp_disp, wp_pair, wp_pair0, wp_dict0, wipeW, List.foldl_cons, List.foldl_nil, wp_run, List.map, List.length, List.replicate, List.cons_append, List.nil_append, List.append_nil, List.set_cons_zero, List.set_cons_succ, if_true, if_false, Bool.not_true, Bool.not_false, Bool.true_eq_false, Bool.false_eq_true, Nat.reduceAdd, Nat.reduceSub, gName', wp_fldF, ws_fld, wp_lm, wp_din, wp_dget2, wp_dset2, wp_dpop, wp_newD, ws_raise, ws_nxE, ws_par, wp_make, wp_meth, wp_newL_f, wp_newL_t, wp_iT, Option.some.injEq, exists_eq_left']
      refine wp_word w2.gT ?_
      simp only [ws_seq, ws_if, ws_set, ws_sub, ws_ret, ws_retN, ws_expr, ws_sNx, ws_for, wp_op, wp_var0, wp_varS, wp_c, wp_mB, wp_toB, wp_tr, wp_trB_bl, wp_trB_non, wp_trB_int, wp_not, wp_and, wp_or, wp_if, wp_mBl, wp_nil, wp_cons, wp_tup, wp_lst, wp_lstS, wp_newL_t, wp_newL_f, wp_chain, wp_call, wp_fn, wp_sl, wp_noPart, wp_part, wp_comp, wp_yes, wp_iL, wp_iA, wp_srcL, wp_srcS, wp_srcAL, wp_srcAT, wp_iR1, wp_iR2, wp_rng1, wp_rng2, wp_iRv, wp_srcRL, wp_srcRT, wp_iEA, wp_srcEL, wp_srcET, wp_add, wp_sub, wp_mul, wp_mod, wp_div, wp_divW, wp_pow18, wp_pow17, wp_pow16, wp_pow30, wp_eqI, wp_neI, wp_cmpI, wp_isN, wp_isNotN, wp_lenL, wp_lenT, wp_abs, wp_int, wp_min2, wp_max2, wp_listL, wp_listT, wp_tupleL, wp_tupleT, wp_ixT0, wp_ixT1, wp_ixL0, wp_neg, wp_ok, wp_srcEL, wp_isB, wp_isNotB, wp_eqB, wp_neB, wp_all, wp_any, wp_slT, wp_slL, wp_rev, wp_revT, wp_revL, wp_disp, wp_pair, wp_pair0, wp_dict0, wipeW, List.foldl_cons, List.foldl_nil, wp_run, List.map, List.length, List.replicate, List.cons_append, List.nil_append, List.append_nil, List.set_cons_zero, List.set_cons_succ, if_true, if_false, Bool.not_true, Bool.not_false, Bool.true_eq_false, Bool.false_eq_true, Nat.reduceAdd, Nat.reduceSub, gName', wp_fldF, ws_fld, wp_lm, wp_din, wp_dget2, wp_dset2, wp_dpop, wp_newD, ws_raise, ws_nxE, ws_par, wp_make, wp_meth, wp_newL_f, wp_newL_t, wp_iT, Option.some.injEq, exists_eq_left', fun r => meth_k (m := "reach") (r := r) w2.gD]
      refine wp_mono (reach_ok w2.gD h0 hB z) ?_ ?_
      · rintro _ s3 ⟨rfl, _, o1', D3, g3⟩
        exact ⟨a, some (.int b0), c, g, i, .non, rfl, .inl rfl, A.step b0, o1', o2, w2.disk D3 g3, accI_step A b0 I z p⟩
      · rintro x s3 ⟨_, q, _⟩
        exact absurd q p
theorem b6_ok {b0 : Int} (w : Wd (WorldG h d k A A o1 o2 R) s) (I : AccI U B m A) (hm : m < 900) (hu : b0 ∈ U) :
    ws (b6K (EnvG h d k (some1.map W.int) a (some (.int b0)) c e f g i) s) FB (fun v s' => v = .bl true ∧ ∃ A' o1 o2, Wd (WorldG h d k A' A' o1 o2 R) s' ∧ AccI U B (m + 1) A') FB FB FX := by
  have hb : b0 ∈ A.U := by rw [I.U']; exact hu
  have hlen := I.len b0
  unfold b6K
  rw [ws_seq]
  refine ws_nx (N := fun e' s' => ∃ v, e' = EnvG h d k (some1.map W.int) a (some (.int b0)) (some v) e f g i ∧ Cont v ∧ Wd (WorldG h d k A A o1 o2 R) s') ?_ ?_
  · unfold EnvG
    simp only [ws_seq, ws_if, ws_set, ws_sub, ws_ret, ws_retN, ws_expr, ws_sNx, ws_for, wp_op, wp_var0, wp_varS, wp_c, wp_mB, wp_toB, wp_tr, wp_trB_bl, wp_trB_non, wp_trB_int, wp_not, wp_and, wp_or, wp_if, wp_mBl, wp_nil, wp_cons, wp_tup, wp_lst, wp_lstS, wp_newL_t, wp_newL_f, wp_chain, wp_call, wp_fn, wp_sl, wp_noPart, wp_part, wp_comp, wp_yes, wp_iL, wp_iA, wp_srcL, wp_srcS, wp_srcAL, wp_srcAT, wp_iR1, wp_iR2, wp_rng1, wp_rng2, wp_iRv, wp_srcRL, wp_srcRT, wp_iEA, wp_srcEL, wp_srcET, wp_add, wp_sub, wp_mul, wp_mod, wp_div, wp_divW, wp_pow18, wp_pow17, wp_pow16, wp_pow30, wp_eqI, wp_neI, wp_cmpI, wp_isN, wp_isNotN, wp_lenL, wp_lenT, wp_abs, wp_int, wp_min2, wp_max2, wp_listL, wp_listT, wp_tupleL, wp_tupleT, wp_ixT0, wp_ixT1, wp_ixL0, wp_neg, wp_ok, wp_srcEL, wp_isB, wp_isNotB, wp_eqB, wp_neB, wp_all, wp_any, wp_slT, wp_slL, wp_rev, wp_revT, wp_revL, wp_disp, wp_pair, wp_pair0, wp_dict0, wipeW, List.foldl_cons, List.foldl_nil, wp_run, List.map, List.length, List.replicate, List.cons_append, List.nil_append, List.append_nil, List.set_cons_zero, List.set_cons_succ, if_true, if_false, Bool.not_true, Bool.not_false, Bool.true_eq_false, Bool.false_eq_true, Nat.reduceAdd, Nat.reduceSub, gName', wp_fldF, ws_fld, wp_lm, wp_din, wp_dget2, wp_dset2, wp_dpop, wp_newD, ws_raise, ws_nxE, ws_par, wp_make, wp_meth, wp_newL_f, wp_newL_t, wp_iT, Option.some.injEq, exists_eq_left']
    refine wp_no (cont_ok w.gH) ?_
    rintro v s1 ⟨n, cv, rfl, g1⟩
    exact ⟨v, rfl, cv, w.hand' g1⟩
  rintro _ s1 ⟨v, rfl, cv, w1⟩
  rw [ws_seq]
  refine ws_nx (N := fun e' s' => e' = EnvG h d k (some1.map W.int) a (some (.int b0)) (some v) e f g i ∧ Wd (WorldG h d k A (A.write b0 v) o1 o2 R) s') ?_ ?_
  · unfold EnvG
    simp only [ws_seq, ws_if, ws_set, ws_sub, ws_ret, ws_retN, ws_expr, ws_sNx, ws_for, wp_op, wp_var0, wp_varS, wp_c, wp_mB, wp_toB, wp_tr, wp_trB_bl, wp_trB_non, wp_trB_int, wp_not, wp_and, wp_or, wp_if, wp_mBl, wp_nil, wp_cons, wp_tup, wp_lst, wp_lstS, wp_newL_t, wp_newL_f, wp_chain, wp_call, wp_fn, wp_sl, wp_noPart, wp_part, wp_comp, wp_yes, wp_iL, wp_iA, wp_srcL, wp_srcS, wp_srcAL, wp_srcAT, wp_iR1, wp_iR2, wp_rng1, wp_rng2, wp_iRv, wp_srcRL, wp_srcRT, wp_iEA, wp_srcEL, wp_srcET, wp_add, wp_sub, wp_mul, wp_mod, wp_div, wp_divW, wp_pow18, wp_pow17, wp_pow16, wp_pow30, wp_eqI, wp_neI, wp_cmpI, wp_isN, wp_isNotN, wp_lenL, wp_lenT, wp_abs, wp_int, wp_min2, wp_max2, wp_listL, wp_listT, wp_tupleL, wp_tupleT, wp_ixT0, wp_ixT1, wp_ixL0, wp_neg, wp_ok, wp_srcEL, wp_isB, wp_isNotB, wp_eqB, wp_neB, wp_all, wp_any, wp_slT, wp_slL, wp_rev, wp_revT, wp_revL, wp_disp, wp_pair, wp_pair0, wp_dict0, wipeW, List.foldl_cons, List.foldl_nil, wp_run, List.map, List.length, List.replicate, List.cons_append, List.nil_append, List.append_nil, List.set_cons_zero, List.set_cons_succ, if_true, if_false, Bool.not_true, Bool.not_false, Bool.true_eq_false, Bool.false_eq_true, Nat.reduceAdd, Nat.reduceSub, gName', wp_fldF, ws_fld, wp_lm, wp_din, wp_dget2, wp_dset2, wp_dpop, wp_newD, ws_raise, ws_nxE, ws_par, wp_make, wp_meth, wp_newL_f, wp_newL_t, wp_iT, Option.some.injEq, exists_eq_left']
    refine wp_no (wrote_ok w1.gB hb (by omega)) ?_
    rintro _ s2 ⟨rfl, F2, g2⟩
    exact ⟨by trivial, w1.book F2 g2⟩
  rintro _ s2 ⟨rfl, w2⟩
  unfold EnvG
  simp only [ws_seq, ws_if, ws_set, ws_sub, ws_ret, ws_retN, ws_expr, ws_sNx, ws_for, wp_op, wp_var0, wp_varS, wp_c, wp_mB, wp_toB, wp_tr, wp_trB_bl, wp_trB_non, wp_trB_int, wp_not, wp_and, wp_or, wp_if, wp_mBl, wp_nil, wp_cons, wp_tup, wp_lst, wp_lstS, wp_newL_t, wp_newL_f, wp_chain, wp_call, wp_fn, wp_sl, wp_noPart, wp_part, wp_comp, wp_yes, wp_iL, wp_iA, wp_srcL, wp_srcS, wp_srcAL, wp_srcAT, wp_iR1, wp_iR2, wp_rng1, wp_rng2, wp_iRv, wp_srcRL, wp_srcRT, wp_iEA, wp_srcEL, wp_srcET, wp_add, wp_sub, wp_mul, wp_mod, wp_div, wp_divW, wp_pow18, wp_pow17, wp_pow16, wp_pow30, wp_eqI, wp_neI, wp_cmpI, wp_isN, wp_isNotN, wp_lenL, wp_lenT, wp_abs, wp_int, wp_min2, wp_max2, wp_listL, wp_listT, wp_tupleL, wp_tupleT, wp_ixT0, wp_ixT1, wp_ixL0, wp_neg, wp_ok, wp_srcEL, wp_isB, wp_isNotB, wp_eqB, wp_neB, wp_all, wp_any, wp_slT, wp_slL, wp_rev, wp_revT, wp_revL, wp_disp, wp_pair, wp_pair0, wp_dict0, wipeW, List.foldl_cons, List.foldl_nil, wp_run, List.map, List.length, List.replicate, List.cons_append, List.nil_append, List.append_nil, List.set_cons_zero, List.set_cons_succ, if_true, if_false, Bool.not_true, Bool.not_false, Bool.true_eq_false, Bool.false_eq_true, Nat.reduceAdd, Nat.reduceSub, gName', wp_fldF, ws_fld, wp_lm, wp_din, wp_dget2, wp_dset2, wp_dpop, wp_newD, ws_raise, ws_nxE, ws_par, wp_make, wp_meth, wp_newL_f, wp_newL_t, wp_iT, Option.some.injEq, exists_eq_left']
  refine wp_word w2.gT ?_
  simp only [ws_seq, ws_if, ws_set, ws_sub, ws_ret, ws_retN, ws_expr, ws_sNx, ws_for, wp_op, wp_var0, wp_varS, wp_c, wp_mB, wp_toB, wp_tr, wp_trB_bl, wp_trB_non, wp_trB_int, wp_not, wp_and, wp_or, wp_if, wp_mBl, wp_nil, wp_cons, wp_tup, wp_lst, wp_lstS, wp_newL_t, wp_newL_f, wp_chain, wp_call, wp_fn, wp_sl, wp_noPart, wp_part, wp_comp, wp_yes, wp_iL, wp_iA, wp_srcL, wp_srcS, wp_srcAL, wp_srcAT, wp_iR1, wp_iR2, wp_rng1, wp_rng2, wp_iRv, wp_srcRL, wp_srcRT, wp_iEA, wp_srcEL, wp_srcET, wp_add, wp_sub, wp_mul, wp_mod, wp_div, wp_divW, wp_pow18, wp_pow17, wp_pow16, wp_pow30, wp_eqI, wp_neI, wp_cmpI, wp_isN, wp_isNotN, wp_lenL, wp_lenT, wp_abs, wp_int, wp_min2, wp_max2, wp_listL, wp_listT, wp_tupleL, wp_tupleT, wp_ixT0, wp_ixT1, wp_ixL0, wp_neg, wp_ok, wp_srcEL, wp_isB, wp_isNotB, wp_eqB, wp_neB, wp_all, wp_any, wp_slT, wp_slL, wp_rev, wp_revT, wp_revL, wp_disp, wp_pair, wp_pair0, wp_dict0, wipeW, List.foldl_cons, List.foldl_nil, wp_run, List.map, List.length, List.replicate, List.cons_append, List.nil_append, List.append_nil, List.set_cons_zero, List.set_cons_succ, if_true, if_false, Bool.not_true, Bool.not_false, Bool.true_eq_false, Bool.false_eq_true, Nat.reduceAdd, Nat.reduceSub, gName', wp_fldF, ws_fld, wp_lm, wp_din, wp_dget2, wp_dset2, wp_dpop, wp_newD, ws_raise, ws_nxE, ws_par, wp_make, wp_meth, wp_newL_f, wp_newL_t, wp_iT, Option.some.injEq, exists_eq_left', fun r => meth_k (m := "write") (r := r) w2.gD]
  refine wp_mono (write_ok w2.gD hb cv (by omega)) ?_ (fun _ _ z => z.elim)
  rintro _ s3 ⟨rfl, o1', D3, g3⟩
  simp only [ws_seq, ws_if, ws_set, ws_sub, ws_ret, ws_retN, ws_expr, ws_sNx, ws_for, wp_op, wp_var0, wp_varS, wp_c, wp_mB, wp_toB, wp_tr, wp_trB_bl, wp_trB_non, wp_trB_int, wp_not, wp_and, wp_or, wp_if, wp_mBl, wp_nil, wp_cons, wp_tup, wp_lst, wp_lstS, wp_newL_t, wp_newL_f, wp_chain, wp_call, wp_fn, wp_sl, wp_noPart, wp_part, wp_comp, wp_yes, wp_iL, wp_iA, wp_srcL, wp_srcS, wp_srcAL, wp_srcAT, wp_iR1, wp_iR2, wp_rng1, wp_rng2, wp_iRv, wp_srcRL, wp_srcRT, wp_iEA, wp_srcEL, wp_srcET, wp_add, wp_sub, wp_mul, wp_mod, wp_div, wp_divW, wp_pow18, wp_pow17, wp_pow16, wp_pow30, wp_eqI, wp_neI, wp_cmpI, wp_isN, wp_isNotN, wp_lenL, wp_lenT, wp_abs, wp_int, wp_min2, wp_max2, wp_listL, wp_listT, wp_tupleL, wp_tupleT, wp_ixT0, wp_ixT1, wp_ixL0, wp_neg, wp_ok, wp_srcEL, wp_isB, wp_isNotB, wp_eqB, wp_neB, wp_all, wp_any, wp_slT, wp_slL, wp_rev, wp_revT, wp_revL, wp_disp, wp_pair, wp_pair0, wp_dict0, wipeW, List.foldl_cons, List.foldl_nil, wp_run, List.map, List.length, List.replicate, List.cons_append, List.nil_append, List.append_nil, List.set_cons_zero, List.set_cons_succ, if_true, if_false, Bool.not_true, Bool.not_false, Bool.true_eq_false, Bool.false_eq_true, Nat.reduceAdd, Nat.reduceSub, gName', wp_fldF, ws_fld, wp_lm, wp_din, wp_dget2, wp_dset2, wp_dpop, wp_newD, ws_raise, ws_nxE, ws_par, wp_make, wp_meth, wp_newL_f, wp_newL_t, wp_iT, Option.some.injEq, exists_eq_left', Mi.isNon]
  exact ⟨by trivial, A.write b0 v, o1', o2, w2.disk D3 g3, I.write cv hm⟩
/-- a stop is mended by a cut -/
theorem s3_ok {tw : W} (ht : Wrd tw) (w : Wd (WorldG h d k A A o1 o2 R) s) (I : AccI U B m A) (hs : ∀ b ∈ some1, 0 ≤ b ∧ b < (B : Int)) :
    ws (s3K (EnvG h d k (some1.map W.int) a b c (some tw) (some tw) g i) s) (fun e' s' => e' = EnvG h d k (some1.map W.int) a b c (some tw) (some tw) g i ∧ s' = s) (fun v s' => v = .bl true ∧ ∃ A' o1 o2, Wd (WorldG h d k A' A' o1 o2 R) s' ∧ AccI U B (m + 1) A') FB FB FX := by
  unfold s3K EnvG
  rcases ht with rfl | rfl | rfl
  · simp only [ws_seq, ws_if, ws_set, ws_sub, ws_ret, ws_retN, ws_expr, ws_sNx, ws_for, wp_op, wp_var0, wp_varS, wp_c, wp_mB, wp_toB, wp_tr, wp_trB_bl, wp_trB_non, wp_trB_int, wp_not, wp_and, wp_or, wp_if, wp_mBl, wp_nil, wp_cons, wp_tup, wp_lst, wp_lstS, wp_newL_t, wp_newL_f, wp_chain, wp_call, wp_fn, wp_sl, wp_noPart, wp_part, wp_comp, wp_yes, wp_iL, wp_iA, wp_srcL, wp_srcS, wp_srcAL, wp_srcAT, wp_iR1, wp_iR2, wp_rng1, wp_rng2, wp_iRv, wp_srcRL, wp_srcRT, wp_iEA, wp_srcEL, wp_srcET, wp_add, wp_sub, wp_mul, wp_mod, wp_div, wp_divW, wp_pow18, wp_pow17, wp_pow16, wp_pow30, wp_eqI, wp_neI, wp_cmpI, wp_isN, wp_isNotN, wp_lenL, wp_lenT, wp_abs, wp_int, wp_min2, wp_max2, wp_listL, wp_listT, wp_tupleL, wp_tupleT, wp_ixT0, wp_ixT1, wp_ixL0, wp_neg, wp_ok, wp_srcEL, wp_isB, wp_isNotB, wp_eqB, wp_neB, wp_all, wp_any, wp_slT, wp_slL, wp_rev, wp_revT, wp_revL, wp_disp, wp_pair, wp_pair0, wp_dict0, wipeW, List.foldl_cons, List.foldl_nil, wp_run, List.map, List.length, List.replicate, List.cons_append, List.nil_append, List.append_nil, List.set_cons_zero, List.set_cons_succ, if_true, if_false, Bool.not_true, Bool.not_false, Bool.true_eq_false, Bool.false_eq_true, Nat.reduceAdd, Nat.reduceSub, gName', wp_fldF, ws_fld, wp_lm, wp_din, wp_dget2, wp_dset2, wp_dpop, wp_newD, ws_raise, ws_nxE, ws_par, wp_make, wp_meth, wp_newL_f, wp_newL_t, wp_iT, Option.some.injEq, exists_eq_left', wp_eqNS]
    exact ⟨by trivial, by trivial⟩
  · simp only [ws_seq, ws_if, ws_set, ws_sub, ws_ret, ws_retN, ws_expr, ws_sNx, ws_for, wp_op, wp_var0, wp_varS, wp_c, wp_mB, wp_toB, wp_tr, wp_trB_bl, wp_trB_non, wp_trB_int, wp_not, wp_and, wp_or, wp_if, wp_mBl, wp_nil, wp_cons, wp_tup, wp_lst, wp_lstS, wp_newL_t, wp_newL_f, wp_chain, wp_call, wp_fn, wp_sl, wp_noPart, wp_part, wp_comp, wp_yes, wp_iL, wp_iA, wp_srcL, wp_srcS, wp_srcAL, wp_srcAT, wp_iR1, wp_iR2, wp_rng1, wp_rng2, wp_iRv, wp_srcRL, wp_srcRT, wp_iEA, wp_srcEL, wp_srcET, wp_add, wp_sub, wp_mul, wp_mod, wp_div, wp_divW, wp_pow18, wp_pow17, wp_pow16, wp_pow30, wp_eqI, wp_neI, wp_cmpI, wp_isN, wp_isNotN, wp_lenL, wp_lenT, wp_abs, wp_int, wp_min2, wp_max2, wp_listL, wp_listT, wp_tupleL, wp_tupleT, wp_ixT0, wp_ixT1, wp_ixL0, wp_neg, wp_ok, wp_srcEL, wp_isB, wp_isNotB, wp_eqB, wp_neB, wp_all, wp_any, wp_slT, wp_slL, wp_rev, wp_revT, wp_revL, wp_disp, wp_pair, wp_pair0, wp_dict0, wipeW, List.foldl_cons, List.foldl_nil, wp_run, List.map, List.length, List.replicate, List.cons_append, List.nil_append, List.append_nil, List.set_cons_zero, List.set_cons_succ, if_true, if_false, Bool.not_true, Bool.not_false, Bool.true_eq_false, Bool.false_eq_true, Nat.reduceAdd, Nat.reduceSub, gName', wp_fldF, ws_fld, wp_lm, wp_din, wp_dget2, wp_dset2, wp_dpop, wp_newD, ws_raise, ws_nxE, ws_par, wp_make, wp_meth, wp_newL_f, wp_newL_t, wp_iT, Option.some.injEq, exists_eq_left', wp_eqSS, decide_true]
    refine wp_no (shows_ok w.gD w.gB I.ok fun b hb => by rw [I.B']; exact hs b hb) ?_
    rintro _ s1 ⟨rfl, g1⟩
    have w1 := w.same g1
    simp only [ws_seq, ws_if, ws_set, ws_sub, ws_ret, ws_retN, ws_expr, ws_sNx, ws_for, wp_op, wp_var0, wp_varS, wp_c, wp_mB, wp_toB, wp_tr, wp_trB_bl, wp_trB_non, wp_trB_int, wp_not, wp_and, wp_or, wp_if, wp_mBl, wp_nil, wp_cons, wp_tup, wp_lst, wp_lstS, wp_newL_t, wp_newL_f, wp_chain, wp_call, wp_fn, wp_sl, wp_noPart, wp_part, wp_comp, wp_yes, wp_iL, wp_iA, wp_srcL, wp_srcS, wp_srcAL, wp_srcAT, wp_iR1, wp_iR2, wp_rng1, wp_rng2, wp_iRv, wp_srcRL, wp_srcRT, wp_iEA, wp_srcEL, wp_srcET, wp_add, wp_sub, wp_mul, wp_mod, wp_div, wp_divW, wp_pow18, wp_pow17, wp_pow16, wp_pow30, wp_eqI, wp_neI, wp_cmpI, wp_isN, wp_isNotN, wp_lenL, wp_lenT, wp_abs, wp_int, wp_min2, wp_max2, wp_listL, wp_listT, wp_tupleL, wp_tupleT, wp_ixT0, wp_ixT1, wp_ixL0, wp_neg, wp_ok, wp_srcEL, wp_isB, wp_isNotB, wp_eqB, wp_neB, wp_all, wp_any, wp_slT, wp_slL, wp_rev, wp_revT, wp_revL, wp_disp, wp_pair, wp_pair0, wp_dict0, wipeW, List.foldl_cons, List.foldl_nil, wp_run, List.map, List.length, List.replicate, List.cons_append, List.nil_append, List.append_nil, List.set_cons_zero, List.set_cons_succ, if_true, if_false, Bool.not_true, Bool.not_false, Bool.true_eq_false, Bool.false_eq_true, Nat.reduceAdd, Nat.reduceSub, gName', wp_fldF, ws_fld, wp_lm, wp_din, wp_dget2, wp_dset2, wp_dpop, wp_newD, ws_raise, ws_nxE, ws_par, wp_make, wp_meth, wp_newL_f, wp_newL_t, wp_iT, Option.some.injEq, exists_eq_left']
    refine wp_no (bcut_ok w1.gB) ?_
    rintro _ s2 ⟨rfl, o2', F2, g2⟩
    have w2 := w1.book F2 g2
    refine wp_word w2.gT ?_
    simp only [ws_seq, ws_if, ws_set, ws_sub, ws_ret, ws_retN, ws_expr, ws_sNx, ws_for, wp_op, wp_var0, wp_varS, wp_c, wp_mB, wp_toB, wp_tr, wp_trB_bl, wp_trB_non, wp_trB_int, wp_not, wp_and, wp_or, wp_if, wp_mBl, wp_nil, wp_cons, wp_tup, wp_lst, wp_lstS, wp_newL_t, wp_newL_f, wp_chain, wp_call, wp_fn, wp_sl, wp_noPart, wp_part, wp_comp, wp_yes, wp_iL, wp_iA, wp_srcL, wp_srcS, wp_srcAL, wp_srcAT, wp_iR1, wp_iR2, wp_rng1, wp_rng2, wp_iRv, wp_srcRL, wp_srcRT, wp_iEA, wp_srcEL, wp_srcET, wp_add, wp_sub, wp_mul, wp_mod, wp_div, wp_divW, wp_pow18, wp_pow17, wp_pow16, wp_pow30, wp_eqI, wp_neI, wp_cmpI, wp_isN, wp_isNotN, wp_lenL, wp_lenT, wp_abs, wp_int, wp_min2, wp_max2, wp_listL, wp_listT, wp_tupleL, wp_tupleT, wp_ixT0, wp_ixT1, wp_ixL0, wp_neg, wp_ok, wp_srcEL, wp_isB, wp_isNotB, wp_eqB, wp_neB, wp_all, wp_any, wp_slT, wp_slL, wp_rev, wp_revT, wp_revL, wp_disp, wp_pair, wp_pair0, wp_dict0, wipeW, List.foldl_cons, List.foldl_nil, wp_run, List.map, List.length, List.replicate, List.cons_append, List.nil_append, List.append_nil, List.set_cons_zero, List.set_cons_succ, if_true, if_false, Bool.not_true, Bool.not_false, Bool.true_eq_false, Bool.false_eq_true, Nat.reduceAdd, Nat.reduceSub, gName', wp_fldF, ws_fld, wp_lm, wp_din, wp_dget2, wp_dset2, wp_dpop, wp_newD, ws_raise, ws_nxE, ws_par, wp_make, wp_meth, wp_newL_f, wp_newL_t, wp_iT, Option.some.injEq, exists_eq_left', fun r => meth_k (m := "cut") (r := r) w2.gD]
    refine wp_mono (cut_ok w2.gD) ?_ (fun _ _ z => z.elim)
    rintro _ s3 ⟨rfl, o1', D3, g3⟩
    simp only [ws_seq, ws_if, ws_set, ws_sub, ws_ret, ws_retN, ws_expr, ws_sNx, ws_for, wp_op, wp_var0, wp_varS, wp_c, wp_mB, wp_toB, wp_tr, wp_trB_bl, wp_trB_non, wp_trB_int, wp_not, wp_and, wp_or, wp_if, wp_mBl, wp_nil, wp_cons, wp_tup, wp_lst, wp_lstS, wp_newL_t, wp_newL_f, wp_chain, wp_call, wp_fn, wp_sl, wp_noPart, wp_part, wp_comp, wp_yes, wp_iL, wp_iA, wp_srcL, wp_srcS, wp_srcAL, wp_srcAT, wp_iR1, wp_iR2, wp_rng1, wp_rng2, wp_iRv, wp_srcRL, wp_srcRT, wp_iEA, wp_srcEL, wp_srcET, wp_add, wp_sub, wp_mul, wp_mod, wp_div, wp_divW, wp_pow18, wp_pow17, wp_pow16, wp_pow30, wp_eqI, wp_neI, wp_cmpI, wp_isN, wp_isNotN, wp_lenL, wp_lenT, wp_abs, wp_int, wp_min2, wp_max2, wp_listL, wp_listT, wp_tupleL, wp_tupleT, wp_ixT0, wp_ixT1, wp_ixL0, wp_neg, wp_ok, wp_srcEL, wp_isB, wp_isNotB, wp_eqB, wp_neB, wp_all, wp_any, wp_slT, wp_slL, wp_rev, wp_revT, wp_revL, wp_disp, wp_pair, wp_pair0, wp_dict0, wipeW, List.foldl_cons, List.foldl_nil, wp_run, List.map, List.length, List.replicate, List.cons_append, List.nil_append, List.append_nil, List.set_cons_zero, List.set_cons_succ, if_true, if_false, Bool.not_true, Bool.not_false, Bool.true_eq_false, Bool.false_eq_true, Nat.reduceAdd, Nat.reduceSub, gName', wp_fldF, ws_fld, wp_lm, wp_din, wp_dget2, wp_dset2, wp_dpop, wp_newD, ws_raise, ws_nxE, ws_par, wp_make, wp_meth, wp_newL_f, wp_newL_t, wp_iT, Option.some.injEq, exists_eq_left', Mi.isNon]
    exact ⟨by trivial, A.cut, o1', o2', w2.disk D3 g3, I.cut.more⟩
  · simp only [ws_seq, ws_if, ws_set, ws_sub, ws_ret, ws_retN, ws_expr, ws_sNx, ws_for, wp_op, wp_var0, wp_varS, wp_c, wp_mB, wp_toB, wp_tr, wp_trB_bl, wp_trB_non, wp_trB_int, wp_not, wp_and, wp_or, wp_if, wp_mBl, wp_nil, wp_cons, wp_tup, wp_lst, wp_lstS, wp_newL_t, wp_newL_f, wp_chain, wp_call, wp_fn, wp_sl, wp_noPart, wp_part, wp_comp, wp_yes, wp_iL, wp_iA, wp_srcL, wp_srcS, wp_srcAL, wp_srcAT, wp_iR1, wp_iR2, wp_rng1, wp_rng2, wp_iRv, wp_srcRL, wp_srcRT, wp_iEA, wp_srcEL, wp_srcET, wp_add, wp_sub, wp_mul, wp_mod, wp_div, wp_divW, wp_pow18, wp_pow17, wp_pow16, wp_pow30, wp_eqI, wp_neI, wp_cmpI, wp_isN, wp_isNotN, wp_lenL, wp_lenT, wp_abs, wp_int, wp_min2, wp_max2, wp_listL, wp_listT, wp_tupleL, wp_tupleT, wp_ixT0, wp_ixT1, wp_ixL0, wp_neg, wp_ok, wp_srcEL, wp_isB, wp_isNotB, wp_eqB, wp_neB, wp_all, wp_any, wp_slT, wp_slL, wp_rev, wp_revT, wp_revL, wp_disp, wp_pair, wp_pair0, wp_dict0, wipeW, List.foldl_cons, List.foldl_nil, wp_run, List.map, List.length, List.replicate, List.cons_append, List.nil_append, List.append_nil, List.set_cons_zero, List.set_cons_succ, if_true, if_false, Bool.not_true, Bool.not_false, Bool.true_eq_false, Bool.false_eq_true, Nat.reduceAdd, Nat.reduceSub, gName', wp_fldF, ws_fld, wp_lm, wp_din, wp_dget2, wp_dset2, wp_dpop, wp_newD, ws_raise, ws_nxE, ws_par, wp_make, wp_meth, wp_newL_f, wp_newL_t, wp_iT, Option.some.injEq, exists_eq_left', wp_eqSS]
    rw [decide_eq_false (by decide)]
    simp only [ws_seq, ws_if, ws_set, ws_sub, ws_ret, ws_retN, ws_expr, ws_sNx, ws_for, wp_op, wp_var0, wp_varS, wp_c, wp_mB, wp_toB, wp_tr, wp_trB_bl, wp_trB_non, wp_trB_int, wp_not, wp_and, wp_or, wp_if, wp_mBl, wp_nil, wp_cons, wp_tup, wp_lst, wp_lstS, wp_newL_t, wp_newL_f, wp_chain, wp_call, wp_fn, wp_sl, wp_noPart, wp_part, wp_comp, wp_yes, wp_iL, wp_iA, wp_srcL, wp_srcS, wp_srcAL, wp_srcAT, wp_iR1, wp_iR2, wp_rng1, wp_rng2, wp_iRv, wp_srcRL, wp_srcRT, wp_iEA, wp_srcEL, wp_srcET, wp_add, wp_sub, wp_mul, wp_mod, wp_div, wp_divW, wp_pow18, wp_pow17, wp_pow16, wp_pow30, wp_eqI, wp_neI, wp_cmpI, wp_isN, wp_isNotN, wp_lenL, wp_lenT, wp_abs, wp_int, wp_min2, wp_max2, wp_listL, wp_listT, wp_tupleL, wp_tupleT, wp_ixT0, wp_ixT1, wp_ixL0, wp_neg, wp_ok, wp_srcEL, wp_isB, wp_isNotB, wp_eqB, wp_neB, wp_all, wp_any, wp_slT, wp_slL, wp_rev, wp_revT, wp_revL, wp_disp, wp_pair, wp_pair0, wp_dict0, wipeW, List.foldl_cons, List.foldl_nil, wp_run, List.map, List.length, List.replicate, List.cons_append, List.nil_append, List.append_nil, List.set_cons_zero, List.set_cons_succ, if_true, if_false, Bool.not_true, Bool.not_false, Bool.true_eq_false, Bool.false_eq_true, Nat.reduceAdd, Nat.reduceSub, gName', wp_fldF, ws_fld, wp_lm, wp_din, wp_dget2, wp_dset2, wp_dpop, wp_newD, ws_raise, ws_nxE, ws_par, wp_make, wp_meth, wp_newL_f, wp_newL_t, wp_iT, Option.some.injEq, exists_eq_left']
    exact ⟨by trivial, by trivial⟩
end
end Lw
namespace Lw
open PySem L2 Mi
theorem ws_asgW {N : KN} {R : KR} {B C : KN} {E : KX} {env : Ev} {st : Sto} {m : M W} {g : MG} (h : wp (m env st) (fun w s => ∃ e3 s3, g w env s = some (e3, s3) ∧ N e3 s3) (fun x s => E x env s)) : ws (sAsg m g env st) N R B C E := by
  unfold sAsg
  cases e : m env st with
  | ok w s =>
    rw [e] at h
    obtain ⟨e3, s3, hg, q⟩ := h
    show ws (gDo (g w env s)) N R B C E
    rw [hg]
    exact q
  | ex x s => rw [e] at h; exact h
  | stuck => rw [e] at h; exact h.elim
theorem wp_lrg {n : Nat} {env : Ev} {st : Sto} {m : M W} {P : W → Sto → Prop} {E : Xc → Sto → Prop} (hm : m env st = .ok (.int (n : Int)) st) (h : n ≤ 16777216) : wp (mLrg true m env st) P E ↔ P (.lst (((List.range n).map Int.ofNat).map W.int)) st := by
  have : mLrg true m env st = .ok (.lst (((List.range n).map Int.ofNat).map W.int)) st := by
    unfold mLrg
    rw [hm]
    show (if (n : Int).natAbs ≤ 16777216 then newL true _ st else .stuck) = _
    rw [if_pos (by omega), List.map_map]
    rfl
  rw [this]; exact Iff.rfl
section
variable {h d k B m : Nat} {U some1 : List Int} {A : Acc} {o1 o2 : List Nat} {R : List Th} {s : Sto}
theorem deed_ok (w : Wd (WorldG h d k A A o1 o2 R) s) (I : AccI U B m A) (hm : m < 900) (hs : ∀ b ∈ some1, b ∈ U ∧ 0 ≤ b ∧ b < (B : Int)) (hn : some1 ≠ []) (hl : some1.length < 1000) :
    wp (r_law_deed [.ref h, .ref d, .ref k, .lst (some1.map W.int)] s) (fun v s' => v = .bl true ∧ ∃ A' o1 o2, Wd (WorldG h d k A' A' o1 o2 R) s' ∧ AccI U B (m + 1) A') NoE := by
  simp only [r_law_deed, m_law_deed]
  rw [wp_run]
  simp only [List.map, List.length, List.replicate, List.cons_append, List.nil_append, List.append_nil, Nat.reduceAdd, Nat.reduceSub]
  rw [ws_seq]
  refine ws_nx (N := fun e s' => ∃ x b0, e = EnvG h d k (some1.map W.int) (some (.int x)) (some (.int b0)) none none none none none ∧ b0 ∈ some1 ∧ Wd (WorldG h d k A A o1 o2 R) s') ?_ ?_
  · refine ws_asgW ?_
    simp only [ws_seq, ws_if, ws_set, ws_sub, ws_ret, ws_retN, ws_expr, ws_sNx, ws_for, wp_op, wp_var0, wp_varS, wp_c, wp_mB, wp_toB, wp_tr, wp_trB_bl, wp_trB_non, wp_trB_int, wp_not, wp_and, wp_or, wp_if, wp_mBl, wp_nil, wp_cons, wp_tup, wp_lst, wp_lstS, wp_newL_t, wp_newL_f, wp_chain, wp_call, wp_fn, wp_sl, wp_noPart, wp_part, wp_comp, wp_yes, wp_iL, wp_iA, wp_srcL, wp_srcS, wp_srcAL, wp_srcAT, wp_iR1, wp_iR2, wp_rng1, wp_rng2, wp_iRv, wp_srcRL, wp_srcRT, wp_iEA, wp_srcEL, wp_srcET, wp_add, wp_sub, wp_mul, wp_mod, wp_div, wp_divW, wp_pow18, wp_pow17, wp_pow16, wp_pow30, wp_eqI, wp_neI, wp_cmpI, wp_isN, wp_isNotN, wp_lenL, wp_lenT, wp_abs, wp_int, wp_min2, wp_max2, wp_listL, wp_listT, wp_tupleL, wp_tupleT, wp_ixT0, wp_ixT1, wp_ixL0, wp_neg, wp_ok, wp_srcEL, wp_isB, wp_isNotB, wp_eqB, wp_neB, wp_all, wp_any, wp_slT, wp_slL, wp_rev, wp_revT, wp_revL, wp_disp, wp_pair, wp_pair0, wp_dict0, wipeW, List.foldl_cons, List.foldl_nil, wp_run, List.map, List.length, List.replicate, List.cons_append, List.nil_append, List.append_nil, List.set_cons_zero, List.set_cons_succ, if_true, if_false, Bool.not_true, Bool.not_false, Bool.true_eq_false, Bool.false_eq_true, Nat.reduceAdd, Nat.reduceSub, gName', wp_fldF, ws_fld, wp_lm, wp_din, wp_dget2, wp_dset2, wp_dpop, wp_newD, ws_raise, ws_nxE, ws_par, wp_make, wp_meth, wp_newL_f, wp_newL_t, wp_iT, Option.some.injEq, exists_eq_left']
    refine wp_no (draw1 w.gH (by decide) (by decide)) ?_
    rintro _ s1 ⟨x, n, rfl, x0, x1, rfl, g1⟩
    have w1 := w.hand' g1
    refine wp_no (any_ok w1.gH (xs := some1.map W.int) (by simpa using hn) (by rw [List.length_map]; omega)) ?_
    rintro v s2 ⟨n2, hv, rfl, g2⟩
    obtain ⟨b0, hb0, rfl⟩ := List.mem_map.mp hv
    exact ⟨_, _, rfl, x, b0, rfl, hb0, w1.hand' g2⟩
  rintro _ s1 ⟨x, b0, rfl, hb0, w1⟩
  obtain ⟨u1, u2, u3⟩ := hs b0 hb0
  have cmp : ∀ (y : Int) (a b c e f g : Option W) (s : Sto) (p : Str → Str → Bool), wp (mB (mOp (wCmpS p (fun i j => decide (i < j))) (mVar 4) (mC (.int y))) (EnvG h d k (some1.map W.int) (some (.int x)) a b c e f g) s) (fun z s' => z = decide (x < y) ∧ s' = s) NoE := fun y a b c e f g s p => by
    unfold EnvG
    simp only [ws_seq, ws_if, ws_set, ws_sub, ws_ret, ws_retN, ws_expr, ws_sNx, ws_for, wp_op, wp_var0, wp_varS, wp_c, wp_mB, wp_toB, wp_tr, wp_trB_bl, wp_trB_non, wp_trB_int, wp_not, wp_and, wp_or, wp_if, wp_mBl, wp_nil, wp_cons, wp_tup, wp_lst, wp_lstS, wp_newL_t, wp_newL_f, wp_chain, wp_call, wp_fn, wp_sl, wp_noPart, wp_part, wp_comp, wp_yes, wp_iL, wp_iA, wp_srcL, wp_srcS, wp_srcAL, wp_srcAT, wp_iR1, wp_iR2, wp_rng1, wp_rng2, wp_iRv, wp_srcRL, wp_srcRT, wp_iEA, wp_srcEL, wp_srcET, wp_add, wp_sub, wp_mul, wp_mod, wp_div, wp_divW, wp_pow18, wp_pow17, wp_pow16, wp_pow30, wp_eqI, wp_neI, wp_cmpI, wp_isN, wp_isNotN, wp_lenL, wp_lenT, wp_abs, wp_int, wp_min2, wp_max2, wp_listL, wp_listT, wp_tupleL, wp_tupleT, wp_ixT0, wp_ixT1, wp_ixL0, wp_neg, wp_ok, wp_srcEL, wp_isB, wp_isNotB, wp_eqB, wp_neB, wp_all, wp_any, wp_slT, wp_slL, wp_rev, wp_revT, wp_revL, wp_disp, wp_pair, wp_pair0, wp_dict0, wipeW, List.foldl_cons, List.foldl_nil, wp_run, List.map, List.length, List.replicate, List.cons_append, List.nil_append, List.append_nil, List.set_cons_zero, List.set_cons_succ, if_true, if_false, Bool.not_true, Bool.not_false, Bool.true_eq_false, Bool.false_eq_true, Nat.reduceAdd, Nat.reduceSub, gName', wp_fldF, ws_fld, wp_lm, wp_din, wp_dget2, wp_dset2, wp_dpop, wp_newD, ws_raise, ws_nxE, ws_par, wp_make, wp_meth, wp_newL_f, wp_newL_t, wp_iT, Option.some.injEq, exists_eq_left']
    exact ⟨by trivial, by trivial⟩
  rw [ws_seq]
  refine ws_if_to (cmp 6 _ _ _ _ _ _ _ _) ?_
  by_cases c6 : x < 6
  · rw [if_pos (by simpa using c6)]
    exact ws_mono (b6_ok (some1 := some1) w1 I hm u1) (fun _ _ z => z.elim) (fun _ _ z => z) (fun _ _ z => z.elim) (fun _ _ z => z.elim) (fun _ _ _ z => z.elim)
  rw [if_neg (by simpa using c6)]
  show ws (.nx _ _) _ _ _ _ _
  rw [ws_nxR, ws_seq]
  refine ws_nx (N := Alike h d k U B m R (some1.map W.int)) ?_ ?_
  · have fin : ∀ {r : SRs}, ws r (Alike h d k U B m R (some1.map W.int)) FR FB FB FX → ws r (Alike h d k U B m R (some1.map W.int)) (fun v s' => v = .bl true ∧ ∃ A' o1 o2, Wd (WorldG h d k A' A' o1 o2 R) s' ∧ AccI U B (m + 1) A') FB FB (fun x _ s => NoE x s) := fun z => ws_mono z (fun _ _ z => z) (fun _ _ z => z.elim) (fun _ _ z => z.elim) (fun _ _ z => z.elim) (fun _ _ _ z => z.elim)
    refine ws_if_to (cmp 9 _ _ _ _ _ _ _ _) ?_
    by_cases c9 : x < 9
    · rw [if_pos (by simpa using c9)]
      exact fin (b9_ok (some1 := some1) w1 I u2 u3)
    rw [if_neg (by simpa using c9)]
    refine ws_if_to (cmp 11 _ _ _ _ _ _ _ _) ?_
    by_cases c11 : x < 11
    · rw [if_pos (by simpa using c11)]
      exact fin (b11_ok (some1 := some1) w1 I hs hn hl)
    rw [if_neg (by simpa using c11)]
    refine ws_if_to (b := decide (x = 11)) (by unfold EnvG; simp only [ws_seq, ws_if, ws_set, ws_sub, ws_ret, ws_retN, ws_expr, ws_sNx, ws_for, wp_op, wp_var0, wp_varS, wp_c, wp_mB, wp_toB, wp_tr, wp_trB_bl, wp_trB_non, wp_trB_int, wp_not, wp_and, wp_or, wp_if, wp_mBl, wp_nil, wp_cons, wp_tup, wp_lst, wp_lstS, wp_newL_t, wp_newL_f, wp_chain, wp_call, wp_fn, wp_sl, wp_noPart, wp_part, wp_comp, wp_yes, wp_iL, wp_iA, wp_srcL, wp_srcS, wp_srcAL, wp_srcAT, wp_iR1, wp_iR2, wp_rng1, wp_rng2, wp_iRv, wp_srcRL, wp_srcRT, wp_iEA, wp_srcEL, wp_srcET, wp_add, wp_sub, wp_mul, wp_mod, wp_div, wp_divW, wp_pow18, wp_pow17, wp_pow16, wp_pow30, wp_eqI, wp_neI, wp_cmpI, wp_isN, wp_isNotN, wp_lenL, wp_lenT, wp_abs, wp_int, wp_min2, wp_max2, wp_listL, wp_listT, wp_tupleL, wp_tupleT, wp_ixT0, wp_ixT1, wp_ixL0, wp_neg, wp_ok, wp_srcEL, wp_isB, wp_isNotB, wp_eqB, wp_neB, wp_all, wp_any, wp_slT, wp_slL, wp_rev, wp_revT, wp_revL, wp_disp, wp_pair, wp_pair0, wp_dict0, wipeW, List.foldl_cons, List.foldl_nil, wp_run, List.map, List.length, List.replicate, List.cons_append, List.nil_append, List.append_nil, List.set_cons_zero, List.set_cons_succ, if_true, if_false, Bool.not_true, Bool.not_false, Bool.true_eq_false, Bool.false_eq_true, Nat.reduceAdd, Nat.reduceSub, gName', wp_fldF, ws_fld, wp_lm, wp_din, wp_dget2, wp_dset2, wp_dpop, wp_newD, ws_raise, ws_nxE, ws_par, wp_make, wp_meth, wp_newL_f, wp_newL_t, wp_iT, Option.some.injEq, exists_eq_left']; exact ⟨by trivial, by trivial⟩) ?_
    by_cases ce : x = 11
    · rw [if_pos (by simpa using ce)]
      exact fin (bc_ok (some1 := some1) w1 I)
    rw [if_neg (by simpa using ce)]
    refine ws_if_to (cmp 14 _ _ _ _ _ _ _ _) ?_
    by_cases c14 : x < 14
    · rw [if_pos (by simpa using c14)]
      exact fin (bp_ok (some1 := some1) w1 I)
    rw [if_neg (by simpa using c14)]
    exact fin (bx_ok (some1 := some1) w1 I)
  rintro _ s2 ⟨a, b, c, g, i, tw, rfl, ht, A2, p1, p2, w2, I2⟩
  rw [ws_seq]
  refine ws_mono (s3_ok (some1 := some1) ht w2 I2 fun b hb => (hs b hb).2) ?_ (fun _ _ z => z) (fun _ _ z => z.elim) (fun _ _ z => z.elim) (fun _ _ _ z => z.elim)
  rintro _ s3 ⟨rfl, rfl⟩
  unfold EnvG
  rcases ht with rfl | rfl | rfl
  · simp only [ws_seq, ws_if, ws_set, ws_sub, ws_ret, ws_retN, ws_expr, ws_sNx, ws_for, wp_op, wp_var0, wp_varS, wp_c, wp_mB, wp_toB, wp_tr, wp_trB_bl, wp_trB_non, wp_trB_int, wp_not, wp_and, wp_or, wp_if, wp_mBl, wp_nil, wp_cons, wp_tup, wp_lst, wp_lstS, wp_newL_t, wp_newL_f, wp_chain, wp_call, wp_fn, wp_sl, wp_noPart, wp_part, wp_comp, wp_yes, wp_iL, wp_iA, wp_srcL, wp_srcS, wp_srcAL, wp_srcAT, wp_iR1, wp_iR2, wp_rng1, wp_rng2, wp_iRv, wp_srcRL, wp_srcRT, wp_iEA, wp_srcEL, wp_srcET, wp_add, wp_sub, wp_mul, wp_mod, wp_div, wp_divW, wp_pow18, wp_pow17, wp_pow16, wp_pow30, wp_eqI, wp_neI, wp_cmpI, wp_isN, wp_isNotN, wp_lenL, wp_lenT, wp_abs, wp_int, wp_min2, wp_max2, wp_listL, wp_listT, wp_tupleL, wp_tupleT, wp_ixT0, wp_ixT1, wp_ixL0, wp_neg, wp_ok, wp_srcEL, wp_isB, wp_isNotB, wp_eqB, wp_neB, wp_all, wp_any, wp_slT, wp_slL, wp_rev, wp_revT, wp_revL, wp_disp, wp_pair, wp_pair0, wp_dict0, wipeW, List.foldl_cons, List.foldl_nil, wp_run, List.map, List.length, List.replicate, List.cons_append, List.nil_append, List.append_nil, List.set_cons_zero, List.set_cons_succ, if_true, if_false, Bool.not_true, Bool.not_false, Bool.true_eq_false, Bool.false_eq_true, Nat.reduceAdd, Nat.reduceSub, gName', wp_fldF, ws_fld, wp_lm, wp_din, wp_dget2, wp_dset2, wp_dpop, wp_newD, ws_raise, ws_nxE, ws_par, wp_make, wp_meth, wp_newL_f, wp_newL_t, wp_iT, Option.some.injEq, exists_eq_left', wp_eqNN]
    exact ⟨by trivial, A2, p1, p2, w2, I2.more⟩
  · simp only [ws_seq, ws_if, ws_set, ws_sub, ws_ret, ws_retN, ws_expr, ws_sNx, ws_for, wp_op, wp_var0, wp_varS, wp_c, wp_mB, wp_toB, wp_tr, wp_trB_bl, wp_trB_non, wp_trB_int, wp_not, wp_and, wp_or, wp_if, wp_mBl, wp_nil, wp_cons, wp_tup, wp_lst, wp_lstS, wp_newL_t, wp_newL_f, wp_chain, wp_call, wp_fn, wp_sl, wp_noPart, wp_part, wp_comp, wp_yes, wp_iL, wp_iA, wp_srcL, wp_srcS, wp_srcAL, wp_srcAT, wp_iR1, wp_iR2, wp_rng1, wp_rng2, wp_iRv, wp_srcRL, wp_srcRT, wp_iEA, wp_srcEL, wp_srcET, wp_add, wp_sub, wp_mul, wp_mod, wp_div, wp_divW, wp_pow18, wp_pow17, wp_pow16, wp_pow30, wp_eqI, wp_neI, wp_cmpI, wp_isN, wp_isNotN, wp_lenL, wp_lenT, wp_abs, wp_int, wp_min2, wp_max2, wp_listL, wp_listT, wp_tupleL, wp_tupleT, wp_ixT0, wp_ixT1, wp_ixL0, wp_neg, wp_ok, wp_srcEL, wp_isB, wp_isNotB, wp_eqB, wp_neB, wp_all, wp_any, wp_slT, wp_slL, wp_rev, wp_revT, wp_revL, wp_disp, wp_pair, wp_pair0, wp_dict0, wipeW, List.foldl_cons, List.foldl_nil, wp_run, List.map, List.length, List.replicate, List.cons_append, List.nil_append, List.append_nil, List.set_cons_zero, List.set_cons_succ, if_true, if_false, Bool.not_true, Bool.not_false, Bool.true_eq_false, Bool.false_eq_true, Nat.reduceAdd, Nat.reduceSub, gName', wp_fldF, ws_fld, wp_lm, wp_din, wp_dget2, wp_dset2, wp_dpop, wp_newD, ws_raise, ws_nxE, ws_par, wp_make, wp_meth, wp_newL_f, wp_newL_t, wp_iT, Option.some.injEq, exists_eq_left', wp_eqSS, decide_true]
    exact ⟨by trivial, A2, p1, p2, w2, I2.more⟩
  · simp only [ws_seq, ws_if, ws_set, ws_sub, ws_ret, ws_retN, ws_expr, ws_sNx, ws_for, wp_op, wp_var0, wp_varS, wp_c, wp_mB, wp_toB, wp_tr, wp_trB_bl, wp_trB_non, wp_trB_int, wp_not, wp_and, wp_or, wp_if, wp_mBl, wp_nil, wp_cons, wp_tup, wp_lst, wp_lstS, wp_newL_t, wp_newL_f, wp_chain, wp_call, wp_fn, wp_sl, wp_noPart, wp_part, wp_comp, wp_yes, wp_iL, wp_iA, wp_srcL, wp_srcS, wp_srcAL, wp_srcAT, wp_iR1, wp_iR2, wp_rng1, wp_rng2, wp_iRv, wp_srcRL, wp_srcRT, wp_iEA, wp_srcEL, wp_srcET, wp_add, wp_sub, wp_mul, wp_mod, wp_div, wp_divW, wp_pow18, wp_pow17, wp_pow16, wp_pow30, wp_eqI, wp_neI, wp_cmpI, wp_isN, wp_isNotN, wp_lenL, wp_lenT, wp_abs, wp_int, wp_min2, wp_max2, wp_listL, wp_listT, wp_tupleL, wp_tupleT, wp_ixT0, wp_ixT1, wp_ixL0, wp_neg, wp_ok, wp_srcEL, wp_isB, wp_isNotB, wp_eqB, wp_neB, wp_all, wp_any, wp_slT, wp_slL, wp_rev, wp_revT, wp_revL, wp_disp, wp_pair, wp_pair0, wp_dict0, wipeW, List.foldl_cons, List.foldl_nil, wp_run, List.map, List.length, List.replicate, List.cons_append, List.nil_append, List.append_nil, List.set_cons_zero, List.set_cons_succ, if_true, if_false, Bool.not_true, Bool.not_false, Bool.true_eq_false, Bool.false_eq_true, Nat.reduceAdd, Nat.reduceSub, gName', wp_fldF, ws_fld, wp_lm, wp_din, wp_dget2, wp_dset2, wp_dpop, wp_newD, ws_raise, ws_nxE, ws_par, wp_make, wp_meth, wp_newL_f, wp_newL_t, wp_iT, Option.some.injEq, exists_eq_left', wp_eqSS, decide_true]
    exact ⟨by trivial, A2, p1, p2, w2, I2.more⟩
theorem Dk.lieB {s : Sto} {d : Nat} {A : Acc} {own : List Nat} (D : Dk s d A own) : A.lie.length = A.B := by
  obtain ⟨c, k, L, D, _⟩ := D
  exact D.len
theorem relied {B : Nat} {U : List Int} {A : Acc} (hU : A.U = U) (hB : A.B = B) : ({ Acc.zero B U with lie := A.lie } : Acc) = A.copied := by
  cases A
  simp only at hU hB
  subst hU hB
  rfl
theorem copied_ok (w : Wd (WorldG h d k A A o1 o2 R) s) (I : AccI U B m A) (h0 : 16 ≤ B) (h1 : B ≤ 600) (hU : ∀ b ∈ U, 0 ≤ b ∧ b < (B : Int)) (hf : U.length < 64) :
    wp (r_law_copied [.ref h, .ref d, .ref k] s) (fun v s' => ∃ e f o3 o4, v = .tup [.ref e, .ref f] ∧ Wd (tDk e A.copied o3 :: tBk f A.copied o4 :: WorldG h d k A A o1 o2 R) s') NoE := by
  have hlie : A.lie.length = B := (w.gD.lieB).trans I.B'
  simp only [r_law_copied, m_law_copied]
  rw [wp_run]
  simp only [List.map, List.length, List.replicate, List.cons_append, List.nil_append, List.append_nil, Nat.reduceAdd, Nat.reduceSub]
  rw [ws_seq]
  refine ws_nx (N := fun e s' => ∃ f o4, e = [some (.ref h), some (.ref d), some (.ref k), some (.ref f)] ∧ Wd (tBk f (Acc.zero B U) o4 :: WorldG h d k A A o1 o2 R) s') ?_ ?_
  · obtain ⟨l, wv, M, F, _⟩ := w.gB
    simp only [ws_seq, ws_if, ws_set, ws_sub, ws_ret, ws_retN, ws_expr, ws_sNx, ws_for, wp_op, wp_var0, wp_varS, wp_c, wp_mB, wp_toB, wp_tr, wp_trB_bl, wp_trB_non, wp_trB_int, wp_not, wp_and, wp_or, wp_if, wp_mBl, wp_nil, wp_cons, wp_tup, wp_lst, wp_lstS, wp_newL_t, wp_newL_f, wp_chain, wp_call, wp_fn, wp_sl, wp_noPart, wp_part, wp_comp, wp_yes, wp_iL, wp_iA, wp_srcL, wp_srcS, wp_srcAL, wp_srcAT, wp_iR1, wp_iR2, wp_rng1, wp_rng2, wp_iRv, wp_srcRL, wp_srcRT, wp_iEA, wp_srcEL, wp_srcET, wp_add, wp_sub, wp_mul, wp_mod, wp_div, wp_divW, wp_pow18, wp_pow17, wp_pow16, wp_pow30, wp_eqI, wp_neI, wp_cmpI, wp_isN, wp_isNotN, wp_lenL, wp_lenT, wp_abs, wp_int, wp_min2, wp_max2, wp_listL, wp_listT, wp_tupleL, wp_tupleT, wp_ixT0, wp_ixT1, wp_ixL0, wp_neg, wp_ok, wp_srcEL, wp_isB, wp_isNotB, wp_eqB, wp_neB, wp_all, wp_any, wp_slT, wp_slL, wp_rev, wp_revT, wp_revL, wp_disp, wp_pair, wp_pair0, wp_dict0, wipeW, List.foldl_cons, List.foldl_nil, wp_run, List.map, List.length, List.replicate, List.cons_append, List.nil_append, List.append_nil, List.set_cons_zero, List.set_cons_succ, if_true, if_false, Bool.not_true, Bool.not_false, Bool.true_eq_false, Bool.false_eq_true, Nat.reduceAdd, Nat.reduceSub, gName', wp_fldF, ws_fld, wp_lm, wp_din, wp_dget2, wp_dset2, wp_dpop, wp_newD, ws_raise, ws_nxE, ws_par, wp_make, wp_meth, wp_newL_f, wp_newL_t, wp_iT, Option.some.injEq, exists_eq_left', b_l F.hb, wp_lenR F.hl, hlie]
    refine wp_no (book_ok (B := B) (U := U) (by omega) hU hf) ?_
    rintro _ s1 ⟨f, o4, rfl, F1, g1⟩
    exact ⟨f, o4, rfl, w.new (t' := tBk f (Acc.zero B U) o4) g1 F1⟩
  rintro _ s1 ⟨f, o4, rfl, w1⟩
  rw [ws_seq]
  refine ws_nx (N := fun e s' => e = [some (.ref h), some (.ref d), some (.ref k), some (.ref f)] ∧ ∃ o4, Wd (tBk f A.copied o4 :: WorldG h d k A A o1 o2 R) s') ?_ ?_
  · obtain ⟨l, wv, M, F, _⟩ := w1.get (t := tBk k A o2) (by simp)
    obtain ⟨s', o4', e4, F4, g4⟩ := relie_ok (w1.get (t := tBk f (Acc.zero B U) o4) (by simp)) hlie
    rw [relied I.U' I.B'] at F4
    simp only [ws_seq, ws_if, ws_set, ws_sub, ws_ret, ws_retN, ws_expr, ws_sNx, ws_for, wp_op, wp_var0, wp_varS, wp_c, wp_mB, wp_toB, wp_tr, wp_trB_bl, wp_trB_non, wp_trB_int, wp_not, wp_and, wp_or, wp_if, wp_mBl, wp_nil, wp_cons, wp_tup, wp_lst, wp_lstS, wp_newL_t, wp_newL_f, wp_chain, wp_call, wp_fn, wp_sl, wp_noPart, wp_part, wp_comp, wp_yes, wp_iL, wp_iA, wp_srcL, wp_srcS, wp_srcAL, wp_srcAT, wp_iR1, wp_iR2, wp_rng1, wp_rng2, wp_iRv, wp_srcRL, wp_srcRT, wp_iEA, wp_srcEL, wp_srcET, wp_add, wp_sub, wp_mul, wp_mod, wp_div, wp_divW, wp_pow18, wp_pow17, wp_pow16, wp_pow30, wp_eqI, wp_neI, wp_cmpI, wp_isN, wp_isNotN, wp_lenL, wp_lenT, wp_abs, wp_int, wp_min2, wp_max2, wp_listL, wp_listT, wp_tupleL, wp_tupleT, wp_ixT0, wp_ixT1, wp_ixL0, wp_neg, wp_ok, wp_srcEL, wp_isB, wp_isNotB, wp_eqB, wp_neB, wp_all, wp_any, wp_slT, wp_slL, wp_rev, wp_revT, wp_revL, wp_disp, wp_pair, wp_pair0, wp_dict0, wipeW, List.foldl_cons, List.foldl_nil, wp_run, List.map, List.length, List.replicate, List.cons_append, List.nil_append, List.append_nil, List.set_cons_zero, List.set_cons_succ, if_true, if_false, Bool.not_true, Bool.not_false, Bool.true_eq_false, Bool.false_eq_true, Nat.reduceAdd, Nat.reduceSub, gName', wp_fldF, ws_fld, wp_lm, wp_din, wp_dget2, wp_dset2, wp_dpop, wp_newD, ws_raise, ws_nxE, ws_par, wp_make, wp_meth, wp_newL_f, wp_newL_t, wp_iT, Option.some.injEq, exists_eq_left', b_l F.hb, wp_listRf F.hl, wp_stR e4]
    exact ⟨by trivial, o4', w1.upd (t' := tBk f A.copied o4') g4 F4⟩
  rintro _ s2 ⟨rfl, o4, w2⟩
  have D := w2.get (t := tDk d A o1) (by simp)
  simp only [ws_seq, ws_if, ws_set, ws_sub, ws_ret, ws_retN, ws_expr, ws_sNx, ws_for, wp_op, wp_var0, wp_varS, wp_c, wp_mB, wp_toB, wp_tr, wp_trB_bl, wp_trB_non, wp_trB_int, wp_not, wp_and, wp_or, wp_if, wp_mBl, wp_nil, wp_cons, wp_tup, wp_lst, wp_lstS, wp_newL_t, wp_newL_f, wp_chain, wp_call, wp_fn, wp_sl, wp_noPart, wp_part, wp_comp, wp_yes, wp_iL, wp_iA, wp_srcL, wp_srcS, wp_srcAL, wp_srcAT, wp_iR1, wp_iR2, wp_rng1, wp_rng2, wp_iRv, wp_srcRL, wp_srcRT, wp_iEA, wp_srcEL, wp_srcET, wp_add, wp_sub, wp_mul, wp_mod, wp_div, wp_divW, wp_pow18, wp_pow17, wp_pow16, wp_pow30, wp_eqI, wp_neI, wp_cmpI, wp_isN, wp_isNotN, wp_lenL, wp_lenT, wp_abs, wp_int, wp_min2, wp_max2, wp_listL, wp_listT, wp_tupleL, wp_tupleT, wp_ixT0, wp_ixT1, wp_ixL0, wp_neg, wp_ok, wp_srcEL, wp_isB, wp_isNotB, wp_eqB, wp_neB, wp_all, wp_any, wp_slT, wp_slL, wp_rev, wp_revT, wp_revL, wp_disp, wp_pair, wp_pair0, wp_dict0, wipeW, List.foldl_cons, List.foldl_nil, wp_run, List.map, List.length, List.replicate, List.cons_append, List.nil_append, List.append_nil, List.set_cons_zero, List.set_cons_succ, if_true, if_false, Bool.not_true, Bool.not_false, Bool.true_eq_false, Bool.false_eq_true, Nat.reduceAdd, Nat.reduceSub, gName', wp_fldF, ws_fld, wp_lm, wp_din, wp_dget2, wp_dset2, wp_dpop, wp_newD, ws_raise, ws_nxE, ws_par, wp_make, wp_meth, wp_newL_f, wp_newL_t, wp_iT, Option.some.injEq, exists_eq_left', fun r => meth_k (m := "copy") (r := r) D]
  refine wp_no (copy_ok D (by rw [I.B']; exact h0) (by rw [I.B']; exact h1)) ?_
  rintro _ s3 ⟨e, o3, rfl, D3, g3⟩
  exact ⟨e, f, o3, o4, rfl, w2.new (t' := tDk e A.copied o3) g3 D3⟩
end
end Lw
namespace Lw
open PySem L2 Mi
noncomputable def turnK : MS := sSeq (sIf (mOr (mNot (mTr (mCall r_law_deed (mCons (mVar 1) (mCons (mVar 3) (mCons (mVar 4) (mCons (mVar 5) (mNil)))))))) (mNot (mTr (mCall r_law_shows (mCons (mVar 3) (mCons (mVar 4) (mCons (mVar 5) (mNil)))))))) (sRet (mC (.bl false))) (sNx)) (sIf (mB (mOp (wEq) (mCall r_law_draw (mCons (mVar 1) (mCons (mC (.int 8)) (mNil)))) (mC (.int 0)))) (sSeq (sExpr (mLm fAppend (mVar 6) (mCons (mCall r_law_copied (mCons (mVar 1) (mCons (mVar 3) (mCons (mVar 4) (mNil))))) (mNil)))) (sIf (mB (mOp (wEq) (mCall r_law_draw (mCons (mVar 1) (mCons (mC (.int 2)) (mNil)))) (mC (.int 0)))) (sAsg (mTup (mCons (mOp wIx (mVar 6) (mNeg (mC (.int 1)))) (mCons (mTup (mCons (mVar 3) (mCons (mVar 4) (mNil)))) (mNil)))) (gTup' [gTup' [gName' 3, gName' 4], gSub' (mVar 6) (mNeg (mC (.int 1)))])) (sNx))) (sNx))
noncomputable def allK : MS := sIf (mNot (mTr (mFn fAll (mCons (mComp true (iL (mVar 6)) [8, 9] (.tup [8, 9]) (mYes) (mCall r_law_shows (mCons (mVar 8) (mCons (mVar 9) (mCons (mLrg true (mVar 2)) (mNil)))))) (mNil))))) (sRet (mC (.bl false))) (sNx)
abbrev EnvL (scr : W) (B : Int) (d k : Nat) (xs : List W) (pl : Nat) (t a b : Option W) : Ev := [some scr, some (.ref 1), some (.int B), some (.ref d), some (.ref k), some (.lst xs), some (.ref pl), t, a, b]
def prs (L : List It) : List W := L.map fun i => .tup [.ref i.d, .ref i.k]
abbrev RestL (pl : Nat) (L : List It) : List Th := tAt pl (.lst (prs L)) :: L.map tIt
/-- the world between the turns -/
def Lives (U : List Int) (B n d k pl : Nat) (s : Sto) : Prop := ∃ A o1 o2 L, Wd (WorldG 1 d k A A o1 o2 (RestL pl L)) s ∧ AccI U B n A ∧ (∀ i ∈ L, AccI U B n i.A) ∧ L.length ≤ n
theorem store_last {pl : Nat} {xs : List W} {x v : W} {s : Sto} (e : s[pl]? = some (.lst (xs ++ [x]))) : wStore (.ref pl) (.int (-1)) v s = some (s.set pl (.lst (xs ++ [v]))) := by
  have e1 : ixN (xs ++ [x]).length (-1) = some xs.length := by
    rw [List.length_append]
    unfold ixN
    simp
    omega
  have e2 : (xs ++ [x]).set xs.length v = xs ++ [v] := by simp [List.set_append]
  simp only [wStore, wSet, e, e1, e2]
section
variable {scr : W} {B n d k pl : Nat} {U : List Int} {s : Sto} {a b t : Option W}
theorem turn_ok (h0 : 16 ≤ B) (h1 : B ≤ 600) (hU : ∀ b ∈ U, 0 ≤ b ∧ b < (B : Int)) (hn : U ≠ []) (hf : U.length < 64) (hm : n < 100) (I : Lives U B n d k pl s) :
    ws (turnK (EnvL scr B d k (U.map W.int) pl t a b) s) (fun e' s' => ∃ d k, e' = EnvL scr B d k (U.map W.int) pl t a b ∧ Lives U B (n + 1) d k pl s') (fun _ _ => False) (fun _ _ => False) (fun _ _ => False) (fun _ _ _ => False) := by
  obtain ⟨A, o1, o2, L, w, IA, IL, hl⟩ := I
  unfold turnK
  rw [ws_seq]
  refine ws_nx (N := fun e' s' => e' = EnvL scr B d k (U.map W.int) pl t a b ∧ ∃ A o1 o2, Wd (WorldG 1 d k A A o1 o2 (RestL pl L)) s' ∧ AccI U B (n + 1) A) ?_ ?_
  · unfold EnvL
    simp only [ws_seq, ws_if, ws_set, ws_sub, ws_ret, ws_retN, ws_expr, ws_sNx, ws_for, wp_op, wp_var0, wp_varS, wp_c, wp_mB, wp_toB, wp_tr, wp_trB_bl, wp_trB_non, wp_trB_int, wp_not, wp_and, wp_or, wp_if, wp_mBl, wp_nil, wp_cons, wp_tup, wp_lst, wp_lstS, wp_newL_t, wp_newL_f, wp_chain, wp_call, wp_fn, wp_sl, wp_noPart, wp_part, wp_comp, wp_yes, wp_iL, wp_iA, wp_srcL, wp_srcS, wp_srcAL, wp_srcAT, wp_iR1, wp_iR2, wp_rng1, wp_rng2, wp_iRv, wp_srcRL, wp_srcRT, wp_iEA, wp_srcEL, wp_srcET, wp_add, wp_sub, wp_mul, wp_mod, wp_div, wp_divW, wp_pow18, wp_pow17, wp_pow16, wp_pow30, wp_eqI, wp_neI, wp_cmpI, wp_isN, wp_isNotN, wp_lenL, wp_lenT, wp_abs, wp_int, wp_min2, wp_max2, wp_listL, wp_listT, wp_tupleL, wp_tupleT, wp_ixT0, wp_ixT1, wp_ixL0, wp_neg, wp_ok, wp_srcEL, wp_isB, wp_isNotB, wp_eqB, wp_neB, wp_all, wp_any, wp_slT, wp_slL, wp_rev, wp_revT, wp_revL, wp_disp, wp_pair, wp_pair0, wp_dict0, wipeW, List.foldl_cons, List.foldl_nil, wp_run, List.map, List.length, List.replicate, List.cons_append, List.nil_append, List.append_nil, List.set_cons_zero, List.set_cons_succ, if_true, if_false, Bool.not_true, Bool.not_false, Bool.true_eq_false, Bool.false_eq_true, Nat.reduceAdd, Nat.reduceSub, gName', wp_fldF, ws_fld, wp_lm, wp_din, wp_dget2, wp_dset2, wp_dpop, wp_newD, ws_raise, ws_nxE, ws_par, wp_make, wp_meth, wp_newL_f, wp_newL_t, wp_iT, Option.some.injEq, exists_eq_left']
    refine wp_no (deed_ok (some1 := U) w IA (by omega) (fun b hb => ⟨hb, hU b hb⟩) hn (by omega)) ?_
    rintro _ s1 ⟨rfl, A1, p1, p2, w1, I1⟩
    simp only [ws_seq, ws_if, ws_set, ws_sub, ws_ret, ws_retN, ws_expr, ws_sNx, ws_for, wp_op, wp_var0, wp_varS, wp_c, wp_mB, wp_toB, wp_tr, wp_trB_bl, wp_trB_non, wp_trB_int, wp_not, wp_and, wp_or, wp_if, wp_mBl, wp_nil, wp_cons, wp_tup, wp_lst, wp_lstS, wp_newL_t, wp_newL_f, wp_chain, wp_call, wp_fn, wp_sl, wp_noPart, wp_part, wp_comp, wp_yes, wp_iL, wp_iA, wp_srcL, wp_srcS, wp_srcAL, wp_srcAT, wp_iR1, wp_iR2, wp_rng1, wp_rng2, wp_iRv, wp_srcRL, wp_srcRT, wp_iEA, wp_srcEL, wp_srcET, wp_add, wp_sub, wp_mul, wp_mod, wp_div, wp_divW, wp_pow18, wp_pow17, wp_pow16, wp_pow30, wp_eqI, wp_neI, wp_cmpI, wp_isN, wp_isNotN, wp_lenL, wp_lenT, wp_abs, wp_int, wp_min2, wp_max2, wp_listL, wp_listT, wp_tupleL, wp_tupleT, wp_ixT0, wp_ixT1, wp_ixL0, wp_neg, wp_ok, wp_srcEL, wp_isB, wp_isNotB, wp_eqB, wp_neB, wp_all, wp_any, wp_slT, wp_slL, wp_rev, wp_revT, wp_revL, wp_disp, wp_pair, wp_pair0, wp_dict0, wipeW, List.foldl_cons, List.foldl_nil, wp_run, List.map, List.length, List.replicate, List.cons_append, List.nil_append, List.append_nil, List.set_cons_zero, List.set_cons_succ, if_true, if_false, Bool.not_true, Bool.not_false, Bool.true_eq_false, Bool.false_eq_true, Nat.reduceAdd, Nat.reduceSub, gName', wp_fldF, ws_fld, wp_lm, wp_din, wp_dget2, wp_dset2, wp_dpop, wp_newD, ws_raise, ws_nxE, ws_par, wp_make, wp_meth, wp_newL_f, wp_newL_t, wp_iT, Option.some.injEq, exists_eq_left']
    refine wp_no (shows_ok (some1 := U) w1.gD w1.gB I1.ok fun b hb => by rw [I1.B']; exact hU b hb) ?_
    rintro _ s2 ⟨rfl, g2⟩
    simp only [ws_seq, ws_if, ws_set, ws_sub, ws_ret, ws_retN, ws_expr, ws_sNx, ws_for, wp_op, wp_var0, wp_varS, wp_c, wp_mB, wp_toB, wp_tr, wp_trB_bl, wp_trB_non, wp_trB_int, wp_not, wp_and, wp_or, wp_if, wp_mBl, wp_nil, wp_cons, wp_tup, wp_lst, wp_lstS, wp_newL_t, wp_newL_f, wp_chain, wp_call, wp_fn, wp_sl, wp_noPart, wp_part, wp_comp, wp_yes, wp_iL, wp_iA, wp_srcL, wp_srcS, wp_srcAL, wp_srcAT, wp_iR1, wp_iR2, wp_rng1, wp_rng2, wp_iRv, wp_srcRL, wp_srcRT, wp_iEA, wp_srcEL, wp_srcET, wp_add, wp_sub, wp_mul, wp_mod, wp_div, wp_divW, wp_pow18, wp_pow17, wp_pow16, wp_pow30, wp_eqI, wp_neI, wp_cmpI, wp_isN, wp_isNotN, wp_lenL, wp_lenT, wp_abs, wp_int, wp_min2, wp_max2, wp_listL, wp_listT, wp_tupleL, wp_tupleT, wp_ixT0, wp_ixT1, wp_ixL0, wp_neg, wp_ok, wp_srcEL, wp_isB, wp_isNotB, wp_eqB, wp_neB, wp_all, wp_any, wp_slT, wp_slL, wp_rev, wp_revT, wp_revL, wp_disp, wp_pair, wp_pair0, wp_dict0, wipeW, List.foldl_cons, List.foldl_nil, wp_run, List.map, List.length, List.replicate, List.cons_append, List.nil_append, List.append_nil, List.set_cons_zero, List.set_cons_succ, if_true, if_false, Bool.not_true, Bool.not_false, Bool.true_eq_false, Bool.false_eq_true, Nat.reduceAdd, Nat.reduceSub, gName', wp_fldF, ws_fld, wp_lm, wp_din, wp_dget2, wp_dset2, wp_dpop, wp_newD, ws_raise, ws_nxE, ws_par, wp_make, wp_meth, wp_newL_f, wp_newL_t, wp_iT, Option.some.injEq, exists_eq_left']
    exact ⟨by trivial, A1, p1, p2, w1.same g2, I1⟩
  rintro _ s1 ⟨rfl, A, o1, o2, w1, IA⟩
  have IL2 : ∀ i ∈ L, AccI U B (n + 1) i.A := fun i hi => (IL i hi).more
  unfold EnvL
  simp only [ws_seq, ws_if, ws_set, ws_sub, ws_ret, ws_retN, ws_expr, ws_sNx, ws_for, wp_op, wp_var0, wp_varS, wp_c, wp_mB, wp_toB, wp_tr, wp_trB_bl, wp_trB_non, wp_trB_int, wp_not, wp_and, wp_or, wp_if, wp_mBl, wp_nil, wp_cons, wp_tup, wp_lst, wp_lstS, wp_newL_t, wp_newL_f, wp_chain, wp_call, wp_fn, wp_sl, wp_noPart, wp_part, wp_comp, wp_yes, wp_iL, wp_iA, wp_srcL, wp_srcS, wp_srcAL, wp_srcAT, wp_iR1, wp_iR2, wp_rng1, wp_rng2, wp_iRv, wp_srcRL, wp_srcRT, wp_iEA, wp_srcEL, wp_srcET, wp_add, wp_sub, wp_mul, wp_mod, wp_div, wp_divW, wp_pow18, wp_pow17, wp_pow16, wp_pow30, wp_eqI, wp_neI, wp_cmpI, wp_isN, wp_isNotN, wp_lenL, wp_lenT, wp_abs, wp_int, wp_min2, wp_max2, wp_listL, wp_listT, wp_tupleL, wp_tupleT, wp_ixT0, wp_ixT1, wp_ixL0, wp_neg, wp_ok, wp_srcEL, wp_isB, wp_isNotB, wp_eqB, wp_neB, wp_all, wp_any, wp_slT, wp_slL, wp_rev, wp_revT, wp_revL, wp_disp, wp_pair, wp_pair0, wp_dict0, wipeW, List.foldl_cons, List.foldl_nil, wp_run, List.map, List.length, List.replicate, List.cons_append, List.nil_append, List.append_nil, List.set_cons_zero, List.set_cons_succ, if_true, if_false, Bool.not_true, Bool.not_false, Bool.true_eq_false, Bool.false_eq_true, Nat.reduceAdd, Nat.reduceSub, gName', wp_fldF, ws_fld, wp_lm, wp_din, wp_dget2, wp_dset2, wp_dpop, wp_newD, ws_raise, ws_nxE, ws_par, wp_make, wp_meth, wp_newL_f, wp_newL_t, wp_iT, Option.some.injEq, exists_eq_left']
  refine wp_no (draw1 w1.gH (by decide) (by decide)) ?_
  rintro _ s2 ⟨x, nd, rfl, x0, x1, rfl, g2⟩
  have w2 := w1.hand' g2
  simp only [ws_seq, ws_if, ws_set, ws_sub, ws_ret, ws_retN, ws_expr, ws_sNx, ws_for, wp_op, wp_var0, wp_varS, wp_c, wp_mB, wp_toB, wp_tr, wp_trB_bl, wp_trB_non, wp_trB_int, wp_not, wp_and, wp_or, wp_if, wp_mBl, wp_nil, wp_cons, wp_tup, wp_lst, wp_lstS, wp_newL_t, wp_newL_f, wp_chain, wp_call, wp_fn, wp_sl, wp_noPart, wp_part, wp_comp, wp_yes, wp_iL, wp_iA, wp_srcL, wp_srcS, wp_srcAL, wp_srcAT, wp_iR1, wp_iR2, wp_rng1, wp_rng2, wp_iRv, wp_srcRL, wp_srcRT, wp_iEA, wp_srcEL, wp_srcET, wp_add, wp_sub, wp_mul, wp_mod, wp_div, wp_divW, wp_pow18, wp_pow17, wp_pow16, wp_pow30, wp_eqI, wp_neI, wp_cmpI, wp_isN, wp_isNotN, wp_lenL, wp_lenT, wp_abs, wp_int, wp_min2, wp_max2, wp_listL, wp_listT, wp_tupleL, wp_tupleT, wp_ixT0, wp_ixT1, wp_ixL0, wp_neg, wp_ok, wp_srcEL, wp_isB, wp_isNotB, wp_eqB, wp_neB, wp_all, wp_any, wp_slT, wp_slL, wp_rev, wp_revT, wp_revL, wp_disp, wp_pair, wp_pair0, wp_dict0, wipeW, List.foldl_cons, List.foldl_nil, wp_run, List.map, List.length, List.replicate, List.cons_append, List.nil_append, List.append_nil, List.set_cons_zero, List.set_cons_succ, if_true, if_false, Bool.not_true, Bool.not_false, Bool.true_eq_false, Bool.false_eq_true, Nat.reduceAdd, Nat.reduceSub, gName', wp_fldF, ws_fld, wp_lm, wp_din, wp_dget2, wp_dset2, wp_dpop, wp_newD, ws_raise, ws_nxE, ws_par, wp_make, wp_meth, wp_newL_f, wp_newL_t, wp_iT, Option.some.injEq, exists_eq_left']
  split
  · have e0 := w2.get (t := tAt pl (.lst (prs L))) (by simp)
    have hi : (seqL (s1.set 1 nd) (.ref pl)).isSome = true := by simp only [seqL, show (s1.set 1 nd)[pl]? = some (.lst (prs L)) from e0]; rfl
    simp only [ws_seq, ws_if, ws_set, ws_sub, ws_ret, ws_retN, ws_expr, ws_sNx, ws_for, wp_op, wp_var0, wp_varS, wp_c, wp_mB, wp_toB, wp_tr, wp_trB_bl, wp_trB_non, wp_trB_int, wp_not, wp_and, wp_or, wp_if, wp_mBl, wp_nil, wp_cons, wp_tup, wp_lst, wp_lstS, wp_newL_t, wp_newL_f, wp_chain, wp_call, wp_fn, wp_sl, wp_noPart, wp_part, wp_comp, wp_yes, wp_iL, wp_iA, wp_srcL, wp_srcS, wp_srcAL, wp_srcAT, wp_iR1, wp_iR2, wp_rng1, wp_rng2, wp_iRv, wp_srcRL, wp_srcRT, wp_iEA, wp_srcEL, wp_srcET, wp_add, wp_sub, wp_mul, wp_mod, wp_div, wp_divW, wp_pow18, wp_pow17, wp_pow16, wp_pow30, wp_eqI, wp_neI, wp_cmpI, wp_isN, wp_isNotN, wp_lenL, wp_lenT, wp_abs, wp_int, wp_min2, wp_max2, wp_listL, wp_listT, wp_tupleL, wp_tupleT, wp_ixT0, wp_ixT1, wp_ixL0, wp_neg, wp_ok, wp_srcEL, wp_isB, wp_isNotB, wp_eqB, wp_neB, wp_all, wp_any, wp_slT, wp_slL, wp_rev, wp_revT, wp_revL, wp_disp, wp_pair, wp_pair0, wp_dict0, wipeW, List.foldl_cons, List.foldl_nil, wp_run, List.map, List.length, List.replicate, List.cons_append, List.nil_append, List.append_nil, List.set_cons_zero, List.set_cons_succ, if_true, if_false, Bool.not_true, Bool.not_false, Bool.true_eq_false, Bool.false_eq_true, Nat.reduceAdd, Nat.reduceSub, gName', wp_fldF, ws_fld, wp_lm, wp_din, wp_dget2, wp_dset2, wp_dpop, wp_newD, ws_raise, ws_nxE, ws_par, wp_make, wp_meth, wp_newL_f, wp_newL_t, wp_iT, Option.some.injEq, exists_eq_left', hi, true_and]
    refine wp_no (copied_ok w2 IA h0 h1 hU hf) ?_
    rintro _ s3 ⟨e, f, o3, o4, rfl, w3⟩
    have e3 : s3[pl]? = some (.lst (prs L)) := w3.get (t := tAt pl (.lst (prs L))) (by simp)
    have hlp : (prs L).length ≤ n := by simpa [prs] using hl
    rw [wp_app e3 (by simp only [sizeLine]; omega)]
    have w4 := Wd.mid (L1 := [tDk e A.copied o3, tBk f A.copied o4, tBg 1, tDk d A o1, tBk k A o2, tAt 0 tbn]) (t := tAt pl (.lst (prs L))) (t' := tAt pl (.lst (prs L ++ [.tup [.ref e, .ref f]]))) w3 (Go.set (by simp [tAt]) fun _ z => z) (get_setp e3)
    generalize s3.set pl (.lst (prs L ++ [.tup [.ref e, .ref f]])) = s4 at w4
    refine wp_no (draw1 (w4.get (t := tBg 1) (by simp)) (by decide) (by decide)) ?_
    rintro _ s5 ⟨y, nd5, rfl, y0, y1, rfl, g5⟩
    have w5 := Wd.mid (L1 := [tDk e A.copied o3, tBk f A.copied o4]) (t := tBg 1) (t' := tBg 1) w4 (Go.set (by simp [tBg]) fun _ z => z) g5
    generalize s4.set 1 nd5 = s6 at w5
    simp only [ws_seq, ws_if, ws_set, ws_sub, ws_ret, ws_retN, ws_expr, ws_sNx, ws_for, wp_op, wp_var0, wp_varS, wp_c, wp_mB, wp_toB, wp_tr, wp_trB_bl, wp_trB_non, wp_trB_int, wp_not, wp_and, wp_or, wp_if, wp_mBl, wp_nil, wp_cons, wp_tup, wp_lst, wp_lstS, wp_newL_t, wp_newL_f, wp_chain, wp_call, wp_fn, wp_sl, wp_noPart, wp_part, wp_comp, wp_yes, wp_iL, wp_iA, wp_srcL, wp_srcS, wp_srcAL, wp_srcAT, wp_iR1, wp_iR2, wp_rng1, wp_rng2, wp_iRv, wp_srcRL, wp_srcRT, wp_iEA, wp_srcEL, wp_srcET, wp_add, wp_sub, wp_mul, wp_mod, wp_div, wp_divW, wp_pow18, wp_pow17, wp_pow16, wp_pow30, wp_eqI, wp_neI, wp_cmpI, wp_isN, wp_isNotN, wp_lenL, wp_lenT, wp_abs, wp_int, wp_min2, wp_max2, wp_listL, wp_listT, wp_tupleL, wp_tupleT, wp_ixT0, wp_ixT1, wp_ixL0, wp_neg, wp_ok, wp_srcEL, wp_isB, wp_isNotB, wp_eqB, wp_neB, wp_all, wp_any, wp_slT, wp_slL, wp_rev, wp_revT, wp_revL, wp_disp, wp_pair, wp_pair0, wp_dict0, wipeW, List.foldl_cons, List.foldl_nil, wp_run, List.map, List.length, List.replicate, List.cons_append, List.nil_append, List.append_nil, List.set_cons_zero, List.set_cons_succ, if_true, if_false, Bool.not_true, Bool.not_false, Bool.true_eq_false, Bool.false_eq_true, Nat.reduceAdd, Nat.reduceSub, gName', wp_fldF, ws_fld, wp_lm, wp_din, wp_dget2, wp_dset2, wp_dpop, wp_newD, ws_raise, ws_nxE, ws_par, wp_make, wp_meth, wp_newL_f, wp_newL_t, wp_iT, Option.some.injEq, exists_eq_left']
    split
    · refine ws_asgW ?_
      have e5 : s6[pl]? = some (.lst (prs L ++ [.tup [.ref e, .ref f]])) := w5.get (t := tAt pl (Nd.lst (prs L ++ [W.tup [W.ref e, W.ref f]]))) (by simp)
      simp only [ws_seq, ws_if, ws_set, ws_sub, ws_ret, ws_retN, ws_expr, ws_sNx, ws_for, wp_op, wp_var0, wp_varS, wp_c, wp_mB, wp_toB, wp_tr, wp_trB_bl, wp_trB_non, wp_trB_int, wp_not, wp_and, wp_or, wp_if, wp_mBl, wp_nil, wp_cons, wp_tup, wp_lst, wp_lstS, wp_newL_t, wp_newL_f, wp_chain, wp_call, wp_fn, wp_sl, wp_noPart, wp_part, wp_comp, wp_yes, wp_iL, wp_iA, wp_srcL, wp_srcS, wp_srcAL, wp_srcAT, wp_iR1, wp_iR2, wp_rng1, wp_rng2, wp_iRv, wp_srcRL, wp_srcRT, wp_iEA, wp_srcEL, wp_srcET, wp_add, wp_sub, wp_mul, wp_mod, wp_div, wp_divW, wp_pow18, wp_pow17, wp_pow16, wp_pow30, wp_eqI, wp_neI, wp_cmpI, wp_isN, wp_isNotN, wp_lenL, wp_lenT, wp_abs, wp_int, wp_min2, wp_max2, wp_listL, wp_listT, wp_tupleL, wp_tupleT, wp_ixT0, wp_ixT1, wp_ixL0, wp_neg, wp_ok, wp_srcEL, wp_isB, wp_isNotB, wp_eqB, wp_neB, wp_all, wp_any, wp_slT, wp_slL, wp_rev, wp_revT, wp_revL, wp_disp, wp_pair, wp_pair0, wp_dict0, wipeW, List.foldl_cons, List.foldl_nil, wp_run, List.map, List.length, List.replicate, List.cons_append, List.nil_append, List.append_nil, List.set_cons_zero, List.set_cons_succ, if_true, if_false, Bool.not_true, Bool.not_false, Bool.true_eq_false, Bool.false_eq_true, Nat.reduceAdd, Nat.reduceSub, gName', wp_fldF, ws_fld, wp_lm, wp_din, wp_dget2, wp_dset2, wp_dpop, wp_newD, ws_raise, ws_nxE, ws_par, wp_make, wp_meth, wp_newL_f, wp_newL_t, wp_iT, Option.some.injEq, exists_eq_left']
      rw [wp_last e5 (by simp)]
      have el : (prs L ++ [W.tup [.ref e, .ref f]]).getLastD .non = .tup [.ref e, .ref f] := by simp
      rw [el]
      have es := store_last (v := .tup [.ref d, .ref k]) e5
      refine ⟨EnvL scr B e f (U.map W.int) pl t a b, s6.set pl (.lst (prs L ++ [W.tup [W.ref d, W.ref k]])), ?_, e, f, rfl, A.copied, o3, o4, L ++ [⟨d, k, A, o1, o2⟩], ?_, IA.copied, fun i hi => ?_, by rw [List.length_append]; simp only [List.length_cons, List.length_nil]; omega⟩
      · show gAll [gTup' [gName' 3, gName' 4], gSub' (mVar 6) (mNeg (mC (.int 1)))] _ _ _ = _
        have es' : wStore (.ref pl) (.int (-1)) (.tup [.ref d, .ref k]) s6 = _ := es
        simp only [gAll, gTup', gName', gSub', mVar, mNeg, mC, Rs.bind, List.set_cons_zero, List.set_cons_succ, List.getElem?_cons_succ, List.getElem?_cons_zero, es']
      · have w7 := Wd.mid (L1 := [tDk e A.copied o3, tBk f A.copied o4, tBg 1, tDk d A o1, tBk k A o2, tAt 0 tbn]) (t := tAt pl (Nd.lst (prs L ++ [W.tup [W.ref e, W.ref f]]))) (t' := tAt pl (Nd.lst (prs L ++ [W.tup [W.ref d, W.ref k]]))) w5 (Go.set (by simp [tAt]) fun _ z => z) (get_setp e5)
        have ep : prs (L ++ [⟨d, k, A, o1, o2⟩]) = prs L ++ [.tup [.ref d, .ref k]] := by simp [prs]
        -- what is led becomes what stands apart
        have p1 : (tDk e A.copied o3 :: tBk f A.copied o4 :: WorldG 1 d k A A o1 o2 (tAt pl (.lst (prs L ++ [.tup [.ref d, .ref k]])) :: L.map tIt)).Perm (tDk d A o1 :: tBk k A o2 :: tDk e A.copied o3 :: tBk f A.copied o4 :: tBg 1 :: tAt 0 tbn :: tAt pl (.lst (prs L ++ [.tup [.ref d, .ref k]])) :: L.map tIt) :=
          (List.perm_middle (l₁ := [tDk e A.copied o3, tBk f A.copied o4, tBg 1])).trans (List.Perm.cons _ (List.perm_middle (l₁ := [tDk e A.copied o3, tBk f A.copied o4, tBg 1])))
        have w8 := (w7.perm p1).join
        refine w8.perm ?_
        unfold RestL
        rw [ep, List.map_append]
        have q1 : (tIt ⟨d, k, A, o1, o2⟩ :: tDk e A.copied o3 :: tBk f A.copied o4 :: tBg 1 :: tAt 0 tbn :: tAt pl (.lst (prs L ++ [.tup [.ref d, .ref k]])) :: L.map tIt).Perm ((tDk e A.copied o3 :: tBk f A.copied o4 :: tBg 1 :: tAt 0 tbn :: tAt pl (.lst (prs L ++ [.tup [.ref d, .ref k]])) :: L.map tIt) ++ [tIt ⟨d, k, A, o1, o2⟩]) :=
          List.perm_append_comm (l₁ := [tIt ⟨d, k, A, o1, o2⟩])
        refine q1.trans ?_
        have q2 : (tDk e A.copied o3 :: tBk f A.copied o4 :: tBg 1 :: (tAt 0 tbn :: tAt pl (.lst (prs L ++ [.tup [.ref d, .ref k]])) :: (L.map tIt ++ [tIt ⟨d, k, A, o1, o2⟩]))).Perm (tBg 1 :: tDk e A.copied o3 :: tBk f A.copied o4 :: (tAt 0 tbn :: tAt pl (.lst (prs L ++ [.tup [.ref d, .ref k]])) :: (L.map tIt ++ [tIt ⟨d, k, A, o1, o2⟩]))) := List.perm_middle (l₁ := [tDk e A.copied o3, tBk f A.copied o4])
        exact q2
      · rcases List.mem_append.mp hi with hi | hi
        · exact IL2 i hi
        · rw [List.mem_singleton.mp hi]; exact IA
    · refine ⟨d, k, rfl, A, o1, o2, L ++ [⟨e, f, A.copied, o3, o4⟩], ?_, IA, fun i hi => ?_, by rw [List.length_append]; simp only [List.length_cons, List.length_nil]; omega⟩
      · have ep : prs (L ++ [⟨e, f, A.copied, o3, o4⟩]) = prs L ++ [.tup [.ref e, .ref f]] := by simp [prs]
        have w8 := w5.join
        refine w8.perm ?_
        unfold RestL
        rw [ep, List.map_append]
        exact List.perm_append_comm (l₁ := [tIt ⟨e, f, A.copied, o3, o4⟩])
      · rcases List.mem_append.mp hi with hi | hi
        · exact IL2 i hi
        · rw [List.mem_singleton.mp hi]; exact IA.copied
  · exact ⟨d, k, rfl, A, o1, o2, L, w2, IA, IL2, by omega⟩
end
end Lw
namespace Lw
open PySem L2 Mi
abbrev all01 (B : Nat) : List Int := (List.range B).map Int.ofNat
theorem all01_in {B : Nat} : ∀ b ∈ all01 B, 0 ≤ b ∧ b < (B : Int) := fun b hb => by
  obtain ⟨x, hx, rfl⟩ := List.mem_map.mp hb
  have := List.mem_range.mp hx
  show 0 ≤ (x : Int) ∧ (x : Int) < (B : Int)
  omega
theorem mem_all {h d k pl : Nat} {A1 A2 : Acc} {o1 o2 : List Nat} {L : List It} {i : It} (hi : i ∈ L) : tIt i ∈ WorldG h d k A1 A2 o1 o2 (RestL pl L) := by
  simp only [WorldG, RestL, List.mem_cons]
  exact .inr (.inr (.inr (.inr (.inr (List.mem_map.mpr ⟨i, hi, rfl⟩)))))
theorem all_run {scr : W} {B n d k pl : Nat} {U : List Int} {s : Sto} {a b t : Option W} (h1 : B ≤ 600) (hm : n ≤ 100) (I : Lives U B n d k pl s) :
    ws (allK (EnvL scr B d k (U.map W.int) pl t a b) s) (fun e' s' => e' = EnvL scr B d k (U.map W.int) pl t a b ∧ Lives U B n d k pl s') (fun _ _ => False) (fun _ _ => False) (fun _ _ => False) (fun _ _ _ => False) := by
  obtain ⟨A, o1, o2, L, w, IA, IL, hl⟩ := I
  have mp : tAt pl (.lst (prs L)) ∈ WorldG 1 d k A A o1 o2 (RestL pl L) := by simp
  have e0 : s[pl]? = some (.lst (prs L)) := w.get mp
  unfold allK EnvL
  simp only [ws_seq, ws_if, ws_set, ws_sub, ws_ret, ws_retN, ws_expr, ws_sNx, ws_for, wp_op, wp_var0, wp_varS, wp_c, wp_mB, wp_toB, wp_tr, wp_trB_bl, wp_trB_non, wp_trB_int, wp_not, wp_and, wp_or, wp_if, wp_mBl, wp_nil, wp_cons, wp_tup, wp_lst, wp_lstS, wp_newL_t, wp_newL_f, wp_chain, wp_call, wp_fn, wp_sl, wp_noPart, wp_part, wp_comp, wp_yes, wp_iL, wp_iA, wp_srcL, wp_srcS, wp_srcAL, wp_srcAT, wp_iR1, wp_iR2, wp_rng1, wp_rng2, wp_iRv, wp_srcRL, wp_srcRT, wp_iEA, wp_srcEL, wp_srcET, wp_add, wp_sub, wp_mul, wp_mod, wp_div, wp_divW, wp_pow18, wp_pow17, wp_pow16, wp_pow30, wp_eqI, wp_neI, wp_cmpI, wp_isN, wp_isNotN, wp_lenL, wp_lenT, wp_abs, wp_int, wp_min2, wp_max2, wp_listL, wp_listT, wp_tupleL, wp_tupleT, wp_ixT0, wp_ixT1, wp_ixL0, wp_neg, wp_ok, wp_srcEL, wp_isB, wp_isNotB, wp_eqB, wp_neB, wp_all, wp_any, wp_slT, wp_slL, wp_rev, wp_revT, wp_revL, wp_disp, wp_pair, wp_pair0, wp_dict0, wipeW, List.foldl_cons, List.foldl_nil, wp_run, List.map, List.length, List.replicate, List.cons_append, List.nil_append, List.append_nil, List.set_cons_zero, List.set_cons_succ, if_true, if_false, Bool.not_true, Bool.not_false, Bool.true_eq_false, Bool.false_eq_true, Nat.reduceAdd, Nat.reduceSub, gName', wp_fldF, ws_fld, wp_lm, wp_din, wp_dget2, wp_dset2, wp_dpop, wp_newD, ws_raise, ws_nxE, ws_par, wp_make, wp_meth, wp_newL_f, wp_newL_t, wp_iT, Option.some.injEq, exists_eq_left', wp_srcLR e0]
  refine compS_src (xs := prs L) (fun i acc s => Wd (WorldG 1 d k A A o1 o2 (RestL pl L)) s ∧ acc = (List.replicate i true).map W.bl) rfl (fun i acc s z => nod_at (z.1.get mp)) ⟨w, rfl⟩ (by simp only [sizeLine, prs, List.length_map]; omega) (fun i acc s z => by rw [z.2]; simp) (fun i v ev acc s z => ?_) (fun acc s z => ?_)
  · obtain ⟨w, rfl⟩ := z
    unfold prs at ev
    rw [List.getElem?_map] at ev
    cases q : L[i]? with
    | none => rw [q] at ev; simp at ev
    | some it =>
      rw [q] at ev
      simp only [Option.map_some, Option.some.injEq] at ev
      subst ev
      have m := List.mem_of_getElem? q
      have G := IL it m
      obtain ⟨D, F, _⟩ := w.get (mem_all m)
      refine ⟨_, rfl, ?_⟩
      simp only [ws_seq, ws_if, ws_set, ws_sub, ws_ret, ws_retN, ws_expr, ws_sNx, ws_for, wp_op, wp_var0, wp_varS, wp_c, wp_mB, wp_toB, wp_tr, wp_trB_bl, wp_trB_non, wp_trB_int, wp_not, wp_and, wp_or, wp_if, wp_mBl, wp_nil, wp_cons, wp_tup, wp_lst, wp_lstS, wp_newL_t, wp_newL_f, wp_chain, wp_call, wp_fn, wp_sl, wp_noPart, wp_part, wp_comp, wp_yes, wp_iL, wp_iA, wp_srcL, wp_srcS, wp_srcAL, wp_srcAT, wp_iR1, wp_iR2, wp_rng1, wp_rng2, wp_iRv, wp_srcRL, wp_srcRT, wp_iEA, wp_srcEL, wp_srcET, wp_add, wp_sub, wp_mul, wp_mod, wp_div, wp_divW, wp_pow18, wp_pow17, wp_pow16, wp_pow30, wp_eqI, wp_neI, wp_cmpI, wp_isN, wp_isNotN, wp_lenL, wp_lenT, wp_abs, wp_int, wp_min2, wp_max2, wp_listL, wp_listT, wp_tupleL, wp_tupleT, wp_ixT0, wp_ixT1, wp_ixL0, wp_neg, wp_ok, wp_srcEL, wp_isB, wp_isNotB, wp_eqB, wp_neB, wp_all, wp_any, wp_slT, wp_slL, wp_rev, wp_revT, wp_revL, wp_disp, wp_pair, wp_pair0, wp_dict0, wipeW, List.foldl_cons, List.foldl_nil, wp_run, List.map, List.length, List.replicate, List.cons_append, List.nil_append, List.append_nil, List.set_cons_zero, List.set_cons_succ, if_true, if_false, Bool.not_true, Bool.not_false, Bool.true_eq_false, Bool.false_eq_true, Nat.reduceAdd, Nat.reduceSub, gName', wp_fldF, ws_fld, wp_lm, wp_din, wp_dget2, wp_dset2, wp_dpop, wp_newD, ws_raise, ws_nxE, ws_par, wp_make, wp_meth, wp_newL_f, wp_newL_t, wp_iT, Option.some.injEq, exists_eq_left']
      refine (wp_lrg (n := B) ?_ (by omega)).mpr ?_
      · rfl
      refine wp_no (shows_ok (some1 := all01 B) D F G.ok fun b hb => by rw [G.B']; exact all01_in b hb) ?_
      rintro _ s1 ⟨rfl, g1⟩
      refine ⟨w.same g1, ?_⟩
      show List.map W.bl (List.replicate i true) ++ [W.bl true] = List.map W.bl (List.replicate (i + 1) true)
      rw [List.replicate_succ', List.map_append]
      rfl
  · obtain ⟨w, rfl⟩ := z
    simp only [ws_seq, ws_if, ws_set, ws_sub, ws_ret, ws_retN, ws_expr, ws_sNx, ws_for, wp_op, wp_var0, wp_varS, wp_c, wp_mB, wp_toB, wp_tr, wp_trB_bl, wp_trB_non, wp_trB_int, wp_not, wp_and, wp_or, wp_if, wp_mBl, wp_nil, wp_cons, wp_tup, wp_lst, wp_lstS, wp_newL_t, wp_newL_f, wp_chain, wp_call, wp_fn, wp_sl, wp_noPart, wp_part, wp_comp, wp_yes, wp_iL, wp_iA, wp_srcL, wp_srcS, wp_srcAL, wp_srcAT, wp_iR1, wp_iR2, wp_rng1, wp_rng2, wp_iRv, wp_srcRL, wp_srcRT, wp_iEA, wp_srcEL, wp_srcET, wp_add, wp_sub, wp_mul, wp_mod, wp_div, wp_divW, wp_pow18, wp_pow17, wp_pow16, wp_pow30, wp_eqI, wp_neI, wp_cmpI, wp_isN, wp_isNotN, wp_lenL, wp_lenT, wp_abs, wp_int, wp_min2, wp_max2, wp_listL, wp_listT, wp_tupleL, wp_tupleT, wp_ixT0, wp_ixT1, wp_ixL0, wp_neg, wp_ok, wp_srcEL, wp_isB, wp_isNotB, wp_eqB, wp_neB, wp_all, wp_any, wp_slT, wp_slL, wp_rev, wp_revT, wp_revL, wp_disp, wp_pair, wp_pair0, wp_dict0, wipeW, List.foldl_cons, List.foldl_nil, wp_run, List.map, List.length, List.replicate, List.cons_append, List.nil_append, List.append_nil, List.set_cons_zero, List.set_cons_succ, if_true, if_false, Bool.not_true, Bool.not_false, Bool.true_eq_false, Bool.false_eq_true, Nat.reduceAdd, Nat.reduceSub, gName', wp_fldF, ws_fld, wp_lm, wp_din, wp_dget2, wp_dset2, wp_dpop, wp_newD, ws_raise, ws_nxE, ws_par, wp_make, wp_meth, wp_newL_f, wp_newL_t, wp_iT, Option.some.injEq, exists_eq_left']
    have ea : (List.replicate (prs L).length true).all id = true := by simp
    simp only [ws_seq, ws_if, ws_set, ws_sub, ws_ret, ws_retN, ws_expr, ws_sNx, ws_for, wp_op, wp_var0, wp_varS, wp_c, wp_mB, wp_toB, wp_tr, wp_trB_bl, wp_trB_non, wp_trB_int, wp_not, wp_and, wp_or, wp_if, wp_mBl, wp_nil, wp_cons, wp_tup, wp_lst, wp_lstS, wp_newL_t, wp_newL_f, wp_chain, wp_call, wp_fn, wp_sl, wp_noPart, wp_part, wp_comp, wp_yes, wp_iL, wp_iA, wp_srcL, wp_srcS, wp_srcAL, wp_srcAT, wp_iR1, wp_iR2, wp_rng1, wp_rng2, wp_iRv, wp_srcRL, wp_srcRT, wp_iEA, wp_srcEL, wp_srcET, wp_add, wp_sub, wp_mul, wp_mod, wp_div, wp_divW, wp_pow18, wp_pow17, wp_pow16, wp_pow30, wp_eqI, wp_neI, wp_cmpI, wp_isN, wp_isNotN, wp_lenL, wp_lenT, wp_abs, wp_int, wp_min2, wp_max2, wp_listL, wp_listT, wp_tupleL, wp_tupleT, wp_ixT0, wp_ixT1, wp_ixL0, wp_neg, wp_ok, wp_srcEL, wp_isB, wp_isNotB, wp_eqB, wp_neB, wp_all, wp_any, wp_slT, wp_slL, wp_rev, wp_revT, wp_revL, wp_disp, wp_pair, wp_pair0, wp_dict0, wipeW, List.foldl_cons, List.foldl_nil, wp_run, List.map, List.length, List.replicate, List.cons_append, List.nil_append, List.append_nil, List.set_cons_zero, List.set_cons_succ, if_true, if_false, Bool.not_true, Bool.not_false, Bool.true_eq_false, Bool.false_eq_true, Nat.reduceAdd, Nat.reduceSub, gName', wp_fldF, ws_fld, wp_lm, wp_din, wp_dget2, wp_dset2, wp_dpop, wp_newD, ws_raise, ws_nxE, ws_par, wp_make, wp_meth, wp_newL_f, wp_newL_t, wp_iT, Option.some.injEq, exists_eq_left', ea]
    exact ⟨by trivial, A, o1, o2, L, w, IA, IL, hl⟩
theorem Dk.zeroU {s : Sto} {d B : Nat} {U : List Int} {own : List Nat} (D : Dk s d (Acc.zero B []) own) (hU : ∀ b ∈ U, 0 ≤ b ∧ b < (B : Int)) (hf : U.length < 64) : Dk s d (Acc.zero B U) own := by
  obtain ⟨c, k, L, D, rfl⟩ := D
  exact ⟨c, k, L, ⟨D.hd, D.hc, D.hk, fun b r m => absurd rfl (D.row b r m).2.1, fun b m => rfl, D.nk, D.nr, D.len, hU, hf⟩, rfl⟩
theorem Bk.zeroU {s : Sto} {k B : Nat} {U : List Int} {own : List Nat} (F : Bk s k (Acc.zero B []) own) (hU : ∀ b ∈ U, 0 ≤ b ∧ b < (B : Int)) (hf : U.length < 64) : Bk s k (Acc.zero B U) own := by
  obtain ⟨l, w, M, F, rfl⟩ := F
  exact ⟨l, w, M, ⟨F.hb, F.hl, F.hw, fun b r m => by
    obtain ⟨h1, h2, _⟩ := F.row b r m
    exact absurd h1.symm h2, fun b m => rfl, F.nk, F.nr, F.len, hU, hf⟩, rfl⟩
theorem Wd.zeroU {d k B : Nat} {U : List Int} {o1 o2 : List Nat} {R : List Th} {s : Sto} (w : Wd (WorldG 1 d k (Acc.zero B []) (Acc.zero B []) o1 o2 R) s) (hU : ∀ b ∈ U, 0 ≤ b ∧ b < (B : Int)) (hf : U.length < 64) : Wd (WorldG 1 d k (Acc.zero B U) (Acc.zero B U) o1 o2 R) s :=
  (w.disk (w.gD.zeroU hU hf) Go.refl).book (w.gB.zeroU hU hf) Go.refl
theorem law_run (ns : List Int) (hl : ns.length ≤ 63) : wp (r_law [.scr (ns.map W.int)] st0) (fun w s => w = .bl true) NoE := by
  simp only [r_law, m_law]
  rw [wp_run]
  simp only [List.map, List.length, List.replicate, List.cons_append, List.nil_append, List.append_nil, Nat.reduceAdd, Nat.reduceSub]
  rw [ws_seq]
  refine ws_nx (N := fun e s => e = [some (.scr (ns.map W.int)), some (.ref 1), none, none, none, none, none, none, none, none] ∧ Wd [tBg 1, tAt 0 tbn] s) ?_ ?_
  · simp only [ws_seq, ws_if, ws_set, ws_sub, ws_ret, ws_retN, ws_expr, ws_sNx, ws_for, wp_op, wp_var0, wp_varS, wp_c, wp_mB, wp_toB, wp_tr, wp_trB_bl, wp_trB_non, wp_trB_int, wp_not, wp_and, wp_or, wp_if, wp_mBl, wp_nil, wp_cons, wp_tup, wp_lst, wp_lstS, wp_newL_t, wp_newL_f, wp_chain, wp_call, wp_fn, wp_sl, wp_noPart, wp_part, wp_comp, wp_yes, wp_iL, wp_iA, wp_srcL, wp_srcS, wp_srcAL, wp_srcAT, wp_iR1, wp_iR2, wp_rng1, wp_rng2, wp_iRv, wp_srcRL, wp_srcRT, wp_iEA, wp_srcEL, wp_srcET, wp_add, wp_sub, wp_mul, wp_mod, wp_div, wp_divW, wp_pow18, wp_pow17, wp_pow16, wp_pow30, wp_eqI, wp_neI, wp_cmpI, wp_isN, wp_isNotN, wp_lenL, wp_lenT, wp_abs, wp_int, wp_min2, wp_max2, wp_listL, wp_listT, wp_tupleL, wp_tupleT, wp_ixT0, wp_ixT1, wp_ixL0, wp_neg, wp_ok, wp_srcEL, wp_isB, wp_isNotB, wp_eqB, wp_neB, wp_all, wp_any, wp_slT, wp_slL, wp_rev, wp_revT, wp_revL, wp_disp, wp_pair, wp_pair0, wp_dict0, wipeW, List.foldl_cons, List.foldl_nil, wp_run, List.map, List.length, List.replicate, List.cons_append, List.nil_append, List.append_nil, List.set_cons_zero, List.set_cons_succ, if_true, if_false, Bool.not_true, Bool.not_false, Bool.true_eq_false, Bool.false_eq_true, Nat.reduceAdd, Nat.reduceSub, gName']
    refine wp_no (hand_ok ns hl st0) ?_
    rintro _ s ⟨rfl, fr, g⟩
    refine ⟨rfl, fun t ht => ?_, ?_⟩
    · simp only [List.mem_cons, List.not_mem_nil, or_false] at ht
      rcases ht with rfl | rfl
      · exact g
      · exact fr 0 _ rfl
    · refine List.pairwise_cons.mpr ⟨fun t ht => ?_, List.pairwise_singleton _ _⟩
      rw [List.mem_singleton.mp ht]
      intro x hx hy
      have h1 := List.mem_singleton.mp hx
      have h2 := List.mem_singleton.mp hy
      omega
  generalize W.scr (ns.map W.int) = scr
  rintro _ s ⟨rfl, w⟩
  rw [ws_seq]
  refine ws_nx (N := fun e s => ∃ B : Nat, e = [some scr, some (.ref 1), some (.int (B : Int)), none, none, none, none, none, none, none] ∧ 16 ≤ B ∧ B ≤ 600 ∧ Wd [tBg 1, tAt 0 tbn] s) ?_ ?_
  · simp only [ws_seq, ws_if, ws_set, ws_sub, ws_ret, ws_retN, ws_expr, ws_sNx, ws_for, wp_op, wp_var0, wp_varS, wp_c, wp_mB, wp_toB, wp_tr, wp_trB_bl, wp_trB_non, wp_trB_int, wp_not, wp_and, wp_or, wp_if, wp_mBl, wp_nil, wp_cons, wp_tup, wp_lst, wp_lstS, wp_newL_t, wp_newL_f, wp_chain, wp_call, wp_fn, wp_sl, wp_noPart, wp_part, wp_comp, wp_yes, wp_iL, wp_iA, wp_srcL, wp_srcS, wp_srcAL, wp_srcAT, wp_iR1, wp_iR2, wp_rng1, wp_rng2, wp_iRv, wp_srcRL, wp_srcRT, wp_iEA, wp_srcEL, wp_srcET, wp_add, wp_sub, wp_mul, wp_mod, wp_div, wp_divW, wp_pow18, wp_pow17, wp_pow16, wp_pow30, wp_eqI, wp_neI, wp_cmpI, wp_isN, wp_isNotN, wp_lenL, wp_lenT, wp_abs, wp_int, wp_min2, wp_max2, wp_listL, wp_listT, wp_tupleL, wp_tupleT, wp_ixT0, wp_ixT1, wp_ixL0, wp_neg, wp_ok, wp_srcEL, wp_isB, wp_isNotB, wp_eqB, wp_neB, wp_all, wp_any, wp_slT, wp_slL, wp_rev, wp_revT, wp_revL, wp_disp, wp_pair, wp_pair0, wp_dict0, wipeW, List.foldl_cons, List.foldl_nil, wp_run, List.map, List.length, List.replicate, List.cons_append, List.nil_append, List.append_nil, List.set_cons_zero, List.set_cons_succ, if_true, if_false, Bool.not_true, Bool.not_false, Bool.true_eq_false, Bool.false_eq_true, Nat.reduceAdd, Nat.reduceSub, gName', wp_fldF, ws_fld, wp_lm, wp_din, wp_dget2, wp_dset2, wp_dpop, wp_newD, ws_raise, ws_nxE, ws_par, wp_make, wp_meth, wp_newL_f, wp_newL_t, wp_iT, Option.some.injEq, exists_eq_left']
    refine wp_no (draw1 (w.get (t := tBg 1) (by simp)) (by decide) (by decide)) ?_
    rintro _ s1 ⟨x, n, rfl, x0, x1, rfl, g⟩
    have w1 := w.upd (t' := tBg 1) (Go.set (by simp [tBg]) fun _ z => z) g
    simp only [ws_seq, ws_if, ws_set, ws_sub, ws_ret, ws_retN, ws_expr, ws_sNx, ws_for, wp_op, wp_var0, wp_varS, wp_c, wp_mB, wp_toB, wp_tr, wp_trB_bl, wp_trB_non, wp_trB_int, wp_not, wp_and, wp_or, wp_if, wp_mBl, wp_nil, wp_cons, wp_tup, wp_lst, wp_lstS, wp_newL_t, wp_newL_f, wp_chain, wp_call, wp_fn, wp_sl, wp_noPart, wp_part, wp_comp, wp_yes, wp_iL, wp_iA, wp_srcL, wp_srcS, wp_srcAL, wp_srcAT, wp_iR1, wp_iR2, wp_rng1, wp_rng2, wp_iRv, wp_srcRL, wp_srcRT, wp_iEA, wp_srcEL, wp_srcET, wp_add, wp_sub, wp_mul, wp_mod, wp_div, wp_divW, wp_pow18, wp_pow17, wp_pow16, wp_pow30, wp_eqI, wp_neI, wp_cmpI, wp_isN, wp_isNotN, wp_lenL, wp_lenT, wp_abs, wp_int, wp_min2, wp_max2, wp_listL, wp_listT, wp_tupleL, wp_tupleT, wp_ixT0, wp_ixT1, wp_ixL0, wp_neg, wp_ok, wp_srcEL, wp_isB, wp_isNotB, wp_eqB, wp_neB, wp_all, wp_any, wp_slT, wp_slL, wp_rev, wp_revT, wp_revL, wp_disp, wp_pair, wp_pair0, wp_dict0, wipeW, List.foldl_cons, List.foldl_nil, wp_run, List.map, List.length, List.replicate, List.cons_append, List.nil_append, List.append_nil, List.set_cons_zero, List.set_cons_succ, if_true, if_false, Bool.not_true, Bool.not_false, Bool.true_eq_false, Bool.false_eq_true, Nat.reduceAdd, Nat.reduceSub, gName', wp_fldF, ws_fld, wp_lm, wp_din, wp_dget2, wp_dset2, wp_dpop, wp_newD, ws_raise, ws_nxE, ws_par, wp_make, wp_meth, wp_newL_f, wp_newL_t, wp_iT, Option.some.injEq, exists_eq_left']
    split
    · exact ⟨600, rfl, by decide, by decide, w1⟩
    · refine wp_no (draw1 (w1.get (t := tBg 1) (by simp)) (by decide) (by decide)) ?_
      rintro _ s2 ⟨y, n2, rfl, y0, y1, rfl, g2⟩
      have w2 := w1.upd (t' := tBg 1) (Go.set (by simp [tBg]) fun _ z => z) g2
      refine ⟨(16 + y).toNat, ?_, by omega, by omega, w2⟩
      rw [Int.toNat_of_nonneg (by omega)]
  rintro _ s ⟨B, rfl, hB0, hB1, w⟩
  rw [ws_seq]
  refine ws_nx (N := fun e s => ∃ (d k : Nat), e = [some scr, some (.ref 1), some (.int (B : Int)), some (.ref d), some (.ref k), none, none, none, none, none] ∧ ∃ o1 o2, Wd (WorldG 1 d k (Acc.zero B []) (Acc.zero B []) o1 o2 []) s) ?_ ?_
  · simp only [ws_seq, ws_if, ws_set, ws_sub, ws_ret, ws_retN, ws_expr, ws_sNx, ws_for, wp_op, wp_var0, wp_varS, wp_c, wp_mB, wp_toB, wp_tr, wp_trB_bl, wp_trB_non, wp_trB_int, wp_not, wp_and, wp_or, wp_if, wp_mBl, wp_nil, wp_cons, wp_tup, wp_lst, wp_lstS, wp_newL_t, wp_newL_f, wp_chain, wp_call, wp_fn, wp_sl, wp_noPart, wp_part, wp_comp, wp_yes, wp_iL, wp_iA, wp_srcL, wp_srcS, wp_srcAL, wp_srcAT, wp_iR1, wp_iR2, wp_rng1, wp_rng2, wp_iRv, wp_srcRL, wp_srcRT, wp_iEA, wp_srcEL, wp_srcET, wp_add, wp_sub, wp_mul, wp_mod, wp_div, wp_divW, wp_pow18, wp_pow17, wp_pow16, wp_pow30, wp_eqI, wp_neI, wp_cmpI, wp_isN, wp_isNotN, wp_lenL, wp_lenT, wp_abs, wp_int, wp_min2, wp_max2, wp_listL, wp_listT, wp_tupleL, wp_tupleT, wp_ixT0, wp_ixT1, wp_ixL0, wp_neg, wp_ok, wp_srcEL, wp_isB, wp_isNotB, wp_eqB, wp_neB, wp_all, wp_any, wp_slT, wp_slL, wp_rev, wp_revT, wp_revL, wp_disp, wp_pair, wp_pair0, wp_dict0, wipeW, List.foldl_cons, List.foldl_nil, wp_run, List.map, List.length, List.replicate, List.cons_append, List.nil_append, List.append_nil, List.set_cons_zero, List.set_cons_succ, if_true, if_false, Bool.not_true, Bool.not_false, Bool.true_eq_false, Bool.false_eq_true, Nat.reduceAdd, Nat.reduceSub, gName', wp_fldF, ws_fld, wp_lm, wp_din, wp_dget2, wp_dset2, wp_dpop, wp_newD, ws_raise, ws_nxE, ws_par, wp_make, wp_meth, wp_newL_f, wp_newL_t, wp_iT, Option.some.injEq, exists_eq_left']
    refine wp_no (init_ok (B := B) (U := []) hB0 hB1 (by simp) (by simp)) ?_
    rintro _ s1 ⟨rfl, o1, D1, g1⟩
    have w1 := w.new (t' := tDk s.length (Acc.zero B []) o1) g1 D1
    refine ⟨by trivial, ?_⟩
    refine wp_no (book_ok (B := B) (U := []) (by omega) (by simp) (by simp)) ?_
    rintro _ s2 ⟨k, o2, rfl, F2, g2⟩
    have w2 := w1.new (t' := tBk k (Acc.zero B []) o2) g2 F2
    refine ⟨s.length, k, rfl, o1, o2, (w2.perm (List.Perm.swap _ _ _)).perm ?_⟩
    exact List.perm_middle (l₁ := [tDk s.length (Acc.zero B []) o1, tBk k (Acc.zero B []) o2])
  rintro _ s ⟨d, k, rfl, o1, o2, w⟩
  rw [ws_seq]
  refine ws_nx (N := fun e s => ∃ U : List Int, e = [some scr, some (.ref 1), some (.int (B : Int)), some (.ref d), some (.ref k), some (.lst (U.map W.int)), none, none, none, none] ∧ (∀ b ∈ U, 0 ≤ b ∧ b < (B : Int)) ∧ U ≠ [] ∧ U.length < 64 ∧ Wd (WorldG 1 d k (Acc.zero B []) (Acc.zero B []) o1 o2 []) s) ?_ ?_
  · simp only [ws_seq, ws_if, ws_set, ws_sub, ws_ret, ws_retN, ws_expr, ws_sNx, ws_for, wp_op, wp_var0, wp_varS, wp_c, wp_mB, wp_toB, wp_tr, wp_trB_bl, wp_trB_non, wp_trB_int, wp_not, wp_and, wp_or, wp_if, wp_mBl, wp_nil, wp_cons, wp_tup, wp_lst, wp_lstS, wp_newL_t, wp_newL_f, wp_chain, wp_call, wp_fn, wp_sl, wp_noPart, wp_part, wp_comp, wp_yes, wp_iL, wp_iA, wp_srcL, wp_srcS, wp_srcAL, wp_srcAT, wp_iR1, wp_iR2, wp_rng1, wp_rng2, wp_iRv, wp_srcRL, wp_srcRT, wp_iEA, wp_srcEL, wp_srcET, wp_add, wp_sub, wp_mul, wp_mod, wp_div, wp_divW, wp_pow18, wp_pow17, wp_pow16, wp_pow30, wp_eqI, wp_neI, wp_cmpI, wp_isN, wp_isNotN, wp_lenL, wp_lenT, wp_abs, wp_int, wp_min2, wp_max2, wp_listL, wp_listT, wp_tupleL, wp_tupleT, wp_ixT0, wp_ixT1, wp_ixL0, wp_neg, wp_ok, wp_srcEL, wp_isB, wp_isNotB, wp_eqB, wp_neB, wp_all, wp_any, wp_slT, wp_slL, wp_rev, wp_revT, wp_revL, wp_disp, wp_pair, wp_pair0, wp_dict0, wipeW, List.foldl_cons, List.foldl_nil, wp_run, List.map, List.length, List.replicate, List.cons_append, List.nil_append, List.append_nil, List.set_cons_zero, List.set_cons_succ, if_true, if_false, Bool.not_true, Bool.not_false, Bool.true_eq_false, Bool.false_eq_true, Nat.reduceAdd, Nat.reduceSub, gName', wp_fldF, ws_fld, wp_lm, wp_din, wp_dget2, wp_dset2, wp_dpop, wp_newD, ws_raise, ws_nxE, ws_par, wp_make, wp_meth, wp_newL_f, wp_newL_t, wp_iT, Option.some.injEq, exists_eq_left']
    refine ⟨by decide, ?_⟩
    refine compS_fix (fun i acc s => (∃ ds : List Int, acc = ds.map W.int ∧ ds.length = i ∧ ∀ y ∈ ds, 0 ≤ y ∧ y < (B : Int)) ∧ Wd (WorldG 1 d k (Acc.zero B []) (Acc.zero B []) o1 o2 []) s) ⟨⟨[], rfl, rfl, by simp⟩, w⟩ (by rw [rng_len]; simp only [sizeLine]; omega) (fun i acc s z => by
      obtain ⟨⟨ds, rfl, e, _⟩, _⟩ := z
      rw [List.length_map]; omega) (fun i v e acc s z => ?_) (fun acc s z => ?_)
    · obtain ⟨⟨ds, rfl, e1, e2⟩, w2⟩ := z
      refine ⟨_, rfl, ?_⟩
      simp only [ws_seq, ws_if, ws_set, ws_sub, ws_ret, ws_retN, ws_expr, ws_sNx, ws_for, wp_op, wp_var0, wp_varS, wp_c, wp_mB, wp_toB, wp_tr, wp_trB_bl, wp_trB_non, wp_trB_int, wp_not, wp_and, wp_or, wp_if, wp_mBl, wp_nil, wp_cons, wp_tup, wp_lst, wp_lstS, wp_newL_t, wp_newL_f, wp_chain, wp_call, wp_fn, wp_sl, wp_noPart, wp_part, wp_comp, wp_yes, wp_iL, wp_iA, wp_srcL, wp_srcS, wp_srcAL, wp_srcAT, wp_iR1, wp_iR2, wp_rng1, wp_rng2, wp_iRv, wp_srcRL, wp_srcRT, wp_iEA, wp_srcEL, wp_srcET, wp_add, wp_sub, wp_mul, wp_mod, wp_div, wp_divW, wp_pow18, wp_pow17, wp_pow16, wp_pow30, wp_eqI, wp_neI, wp_cmpI, wp_isN, wp_isNotN, wp_lenL, wp_lenT, wp_abs, wp_int, wp_min2, wp_max2, wp_listL, wp_listT, wp_tupleL, wp_tupleT, wp_ixT0, wp_ixT1, wp_ixL0, wp_neg, wp_ok, wp_srcEL, wp_isB, wp_isNotB, wp_eqB, wp_neB, wp_all, wp_any, wp_slT, wp_slL, wp_rev, wp_revT, wp_revL, wp_disp, wp_pair, wp_pair0, wp_dict0, wipeW, List.foldl_cons, List.foldl_nil, wp_run, List.map, List.length, List.replicate, List.cons_append, List.nil_append, List.append_nil, List.set_cons_zero, List.set_cons_succ, if_true, if_false, Bool.not_true, Bool.not_false, Bool.true_eq_false, Bool.false_eq_true, Nat.reduceAdd, Nat.reduceSub, gName', wp_fldF, ws_fld, wp_lm, wp_din, wp_dget2, wp_dset2, wp_dpop, wp_newD, ws_raise, ws_nxE, ws_par, wp_make, wp_meth, wp_newL_f, wp_newL_t, wp_iT, Option.some.injEq, exists_eq_left']
      refine wp_no (draw1 (m := (B : Int)) w2.gH (by omega) (by omega)) ?_
      rintro _ s2 ⟨y, n2, rfl, y0, y1, rfl, g2⟩
      refine ⟨⟨ds ++ [y], by simp, by simp [e1], fun z hz => ?_⟩, w2.hand' g2⟩
      rcases List.mem_append.mp hz with hz | hz
      · exact e2 z hz
      · rw [List.mem_singleton.mp hz]; exact ⟨y0, y1⟩
    · obtain ⟨⟨ds, rfl, e1, e2⟩, w2⟩ := z
      rw [rng_len] at e1
      have e3 : [W.int 0, W.int ((B : Int) - 1)] ++ ds.map W.int = ([0, (B : Int) - 1] ++ ds).map W.int := by simp
      have l5 : ds.length = 5 := e1
      have hb : ∀ y ∈ [0, (B : Int) - 1] ++ ds, 0 ≤ y ∧ y < (B : Int) := fun y hy => by
        simp only [List.mem_append, List.mem_cons, List.not_mem_nil, or_false] at hy
        rcases hy with (rfl | rfl) | hy
        · omega
        · omega
        · exact e2 y hy
      rw [wp_addL, e3, wp_sortset (by rw [List.length_append, l5]; simp)]
      refine ⟨by rw [List.length_map, l5]; simp [sizeLine], setZ ([0, (B : Int) - 1] ++ ds), rfl, fun y hy => hb y (setZ_mem.mp hy), fun z => ?_, ?_, w2⟩
      · have : (0 : Int) ∈ setZ ([0, (B : Int) - 1] ++ ds) := setZ_mem.mpr (by simp)
        rw [z] at this
        cases this
      · have := nodup_few (l := setZ ([0, (B : Int) - 1] ++ ds)) (u := [0, (B : Int) - 1] ++ ds) (setZ_lt.imp fun h => Int.ne_of_lt h) fun y hy => setZ_mem.mp hy
        rw [List.length_append, l5] at this
        simp only [List.length_cons, List.length_nil] at this
        omega
  rintro _ s ⟨U, rfl, hU, hn, hf, w⟩
  have w := w.zeroU hU hf
  rw [ws_seq]
  refine ws_nx (N := fun e s => ∃ pl, e = EnvL scr B d k (U.map W.int) pl none none none ∧ Lives U B 0 d k pl s) ?_ ?_
  · simp only [ws_seq, ws_if, ws_set, ws_sub, ws_ret, ws_retN, ws_expr, ws_sNx, ws_for, wp_op, wp_var0, wp_varS, wp_c, wp_mB, wp_toB, wp_tr, wp_trB_bl, wp_trB_non, wp_trB_int, wp_not, wp_and, wp_or, wp_if, wp_mBl, wp_nil, wp_cons, wp_tup, wp_lst, wp_lstS, wp_newL_t, wp_newL_f, wp_chain, wp_call, wp_fn, wp_sl, wp_noPart, wp_part, wp_comp, wp_yes, wp_iL, wp_iA, wp_srcL, wp_srcS, wp_srcAL, wp_srcAT, wp_iR1, wp_iR2, wp_rng1, wp_rng2, wp_iRv, wp_srcRL, wp_srcRT, wp_iEA, wp_srcEL, wp_srcET, wp_add, wp_sub, wp_mul, wp_mod, wp_div, wp_divW, wp_pow18, wp_pow17, wp_pow16, wp_pow30, wp_eqI, wp_neI, wp_cmpI, wp_isN, wp_isNotN, wp_lenL, wp_lenT, wp_abs, wp_int, wp_min2, wp_max2, wp_listL, wp_listT, wp_tupleL, wp_tupleT, wp_ixT0, wp_ixT1, wp_ixL0, wp_neg, wp_ok, wp_srcEL, wp_isB, wp_isNotB, wp_eqB, wp_neB, wp_all, wp_any, wp_slT, wp_slL, wp_rev, wp_revT, wp_revL, wp_disp, wp_pair, wp_pair0, wp_dict0, wipeW, List.foldl_cons, List.foldl_nil, wp_run, List.map, List.length, List.replicate, List.cons_append, List.nil_append, List.append_nil, List.set_cons_zero, List.set_cons_succ, if_true, if_false, Bool.not_true, Bool.not_false, Bool.true_eq_false, Bool.false_eq_true, Nat.reduceAdd, Nat.reduceSub, gName', wp_fldF, ws_fld, wp_lm, wp_din, wp_dget2, wp_dset2, wp_dpop, wp_newD, ws_raise, ws_nxE, ws_par, wp_make, wp_meth, wp_newL_f, wp_newL_t, wp_iT, Option.some.injEq, exists_eq_left']
    refine ⟨s.length, rfl, Acc.zero B U, o1, o2, [], ?_, accI_zero, (fun i hi => by cases hi), Nat.le_refl _⟩
    have w4 := w.new (t' := tAt s.length (.lst (prs []))) (s' := s ++ [Nd.lst []]) Go.app (by exact get_new)
    refine w4.perm ?_
    exact List.perm_append_comm (l₁ := [tAt s.length (.lst (prs []))]) (l₂ := [tBg 1, tDk d (Acc.zero B U) o1, tBk k (Acc.zero B U) o2, tAt 0 tbn])
  rintro _ s ⟨pl, rfl, I⟩
  rw [ws_seq]
  refine ws_nx (N := fun e s => ∃ d k t n, e = EnvL scr B d k (U.map W.int) pl t none none ∧ n ≤ 100 ∧ Lives U B n d k pl s) ?_ ?_
  · unfold EnvL
    obtain ⟨A, p1, p2, L, w, IA, IL, hl⟩ := I
    simp only [ws_seq, ws_if, ws_set, ws_sub, ws_ret, ws_retN, ws_expr, ws_sNx, ws_for, wp_op, wp_var0, wp_varS, wp_c, wp_mB, wp_toB, wp_tr, wp_trB_bl, wp_trB_non, wp_trB_int, wp_not, wp_and, wp_or, wp_if, wp_mBl, wp_nil, wp_cons, wp_tup, wp_lst, wp_lstS, wp_newL_t, wp_newL_f, wp_chain, wp_call, wp_fn, wp_sl, wp_noPart, wp_part, wp_comp, wp_yes, wp_iL, wp_iA, wp_srcL, wp_srcS, wp_srcAL, wp_srcAT, wp_iR1, wp_iR2, wp_rng1, wp_rng2, wp_iRv, wp_srcRL, wp_srcRT, wp_iEA, wp_srcEL, wp_srcET, wp_add, wp_sub, wp_mul, wp_mod, wp_div, wp_divW, wp_pow18, wp_pow17, wp_pow16, wp_pow30, wp_eqI, wp_neI, wp_cmpI, wp_isN, wp_isNotN, wp_lenL, wp_lenT, wp_abs, wp_int, wp_min2, wp_max2, wp_listL, wp_listT, wp_tupleL, wp_tupleT, wp_ixT0, wp_ixT1, wp_ixL0, wp_neg, wp_ok, wp_srcEL, wp_isB, wp_isNotB, wp_eqB, wp_neB, wp_all, wp_any, wp_slT, wp_slL, wp_rev, wp_revT, wp_revL, wp_disp, wp_pair, wp_pair0, wp_dict0, wipeW, List.foldl_cons, List.foldl_nil, wp_run, List.map, List.length, List.replicate, List.cons_append, List.nil_append, List.append_nil, List.set_cons_zero, List.set_cons_succ, if_true, if_false, Bool.not_true, Bool.not_false, Bool.true_eq_false, Bool.false_eq_true, Nat.reduceAdd, Nat.reduceSub, gName', wp_fldF, ws_fld, wp_lm, wp_din, wp_dget2, wp_dset2, wp_dpop, wp_newD, ws_raise, ws_nxE, ws_par, wp_make, wp_meth, wp_newL_f, wp_newL_t, wp_iT, Option.some.injEq, exists_eq_left']
    refine wp_no (draw1 w.gH (by decide) (by decide)) ?_
    rintro _ s1 ⟨x, nd, rfl, x0, x1, rfl, g⟩
    simp only [ws_seq, ws_if, ws_set, ws_sub, ws_ret, ws_retN, ws_expr, ws_sNx, ws_for, wp_op, wp_var0, wp_varS, wp_c, wp_mB, wp_toB, wp_tr, wp_trB_bl, wp_trB_non, wp_trB_int, wp_not, wp_and, wp_or, wp_if, wp_mBl, wp_nil, wp_cons, wp_tup, wp_lst, wp_lstS, wp_newL_t, wp_newL_f, wp_chain, wp_call, wp_fn, wp_sl, wp_noPart, wp_part, wp_comp, wp_yes, wp_iL, wp_iA, wp_srcL, wp_srcS, wp_srcAL, wp_srcAT, wp_iR1, wp_iR2, wp_rng1, wp_rng2, wp_iRv, wp_srcRL, wp_srcRT, wp_iEA, wp_srcEL, wp_srcET, wp_add, wp_sub, wp_mul, wp_mod, wp_div, wp_divW, wp_pow18, wp_pow17, wp_pow16, wp_pow30, wp_eqI, wp_neI, wp_cmpI, wp_isN, wp_isNotN, wp_lenL, wp_lenT, wp_abs, wp_int, wp_min2, wp_max2, wp_listL, wp_listT, wp_tupleL, wp_tupleT, wp_ixT0, wp_ixT1, wp_ixL0, wp_neg, wp_ok, wp_srcEL, wp_isB, wp_isNotB, wp_eqB, wp_neB, wp_all, wp_any, wp_slT, wp_slL, wp_rev, wp_revT, wp_revL, wp_disp, wp_pair, wp_pair0, wp_dict0, wipeW, List.foldl_cons, List.foldl_nil, wp_run, List.map, List.length, List.replicate, List.cons_append, List.nil_append, List.append_nil, List.set_cons_zero, List.set_cons_succ, if_true, if_false, Bool.not_true, Bool.not_false, Bool.true_eq_false, Bool.false_eq_true, Nat.reduceAdd, Nat.reduceSub, gName', wp_fldF, ws_fld, wp_lm, wp_din, wp_dget2, wp_dset2, wp_dpop, wp_newD, ws_raise, ws_nxE, ws_par, wp_make, wp_meth, wp_newL_f, wp_newL_t, wp_iT, Option.some.injEq, exists_eq_left']
    refine ⟨by simp only [Mi.small62, decide_eq_true_eq]; omega, ?_⟩
    refine forS_fix (fun i e s => ∃ d k t, e = EnvL scr B d k (U.map W.int) pl t none none ∧ Lives U B i d k pl s) ⟨d, k, none, rfl, A, p1, p2, L, w.hand' g, IA, IL, hl⟩ (fun i v ev e' s' z => ?_) (fun e' s' z => ?_)
    · obtain ⟨d, k, t, rfl, I⟩ := z
      obtain ⟨rfl, hi⟩ := rng_get ev
      refine ⟨EnvL scr B d k (U.map W.int) pl (some (.int (0 + (i : Int)))) none none, s', rfl, ?_⟩
      refine ws_mono (turn_ok hB0 hB1 hU hn hf (by omega) I) ?_ (fun _ _ z => z.elim) (fun _ _ z => z.elim) (fun _ _ z => z.elim) (fun _ _ _ z => z.elim)
      rintro _ s2 ⟨d, k, rfl, I2⟩
      exact ⟨d, k, _, rfl, I2⟩
    · obtain ⟨d, k, t, rfl, I⟩ := z
      refine ⟨d, k, t, _, rfl, ?_, I⟩
      rw [rng_len]
      omega
  rintro _ s ⟨d, k, t, n, rfl, hn100, I⟩
  rw [ws_seq]
  refine ws_mono (all_run hB1 hn100 I) ?_ (fun _ _ z => z.elim) (fun _ _ z => z.elim) (fun _ _ z => z.elim) (fun _ _ _ z => z.elim)
  rintro _ s ⟨rfl, A, p1, p2, L, w, IA, IL, hl⟩
  unfold EnvL
  simp only [ws_seq, ws_if, ws_set, ws_sub, ws_ret, ws_retN, ws_expr, ws_sNx, ws_for, wp_op, wp_var0, wp_varS, wp_c, wp_mB, wp_toB, wp_tr, wp_trB_bl, wp_trB_non, wp_trB_int, wp_not, wp_and, wp_or, wp_if, wp_mBl, wp_nil, wp_cons, wp_tup, wp_lst, wp_lstS, wp_newL_t, wp_newL_f, wp_chain, wp_call, wp_fn, wp_sl, wp_noPart, wp_part, wp_comp, wp_yes, wp_iL, wp_iA, wp_srcL, wp_srcS, wp_srcAL, wp_srcAT, wp_iR1, wp_iR2, wp_rng1, wp_rng2, wp_iRv, wp_srcRL, wp_srcRT, wp_iEA, wp_srcEL, wp_srcET, wp_add, wp_sub, wp_mul, wp_mod, wp_div, wp_divW, wp_pow18, wp_pow17, wp_pow16, wp_pow30, wp_eqI, wp_neI, wp_cmpI, wp_isN, wp_isNotN, wp_lenL, wp_lenT, wp_abs, wp_int, wp_min2, wp_max2, wp_listL, wp_listT, wp_tupleL, wp_tupleT, wp_ixT0, wp_ixT1, wp_ixL0, wp_neg, wp_ok, wp_srcEL, wp_isB, wp_isNotB, wp_eqB, wp_neB, wp_all, wp_any, wp_slT, wp_slL, wp_rev, wp_revT, wp_revL, wp_disp, wp_pair, wp_pair0, wp_dict0, wipeW, List.foldl_cons, List.foldl_nil, wp_run, List.map, List.length, List.replicate, List.cons_append, List.nil_append, List.append_nil, List.set_cons_zero, List.set_cons_succ, if_true, if_false, Bool.not_true, Bool.not_false, Bool.true_eq_false, Bool.false_eq_true, Nat.reduceAdd, Nat.reduceSub, gName', wp_fldF, ws_fld, wp_lm, wp_din, wp_dget2, wp_dset2, wp_dpop, wp_newD, ws_raise, ws_nxE, ws_par, wp_make, wp_meth, wp_newL_f, wp_newL_t, wp_iT, Option.some.injEq, exists_eq_left']
  refine (wp_lrg (n := B) ?_ (by omega)).mpr ?_
  · rfl
  refine wp_no (shows_ok (some1 := all01 B) w.gD w.gB IA.ok fun b hb => by rw [IA.B']; exact all01_in b hb) ?_
  rintro _ s1 ⟨rfl, _⟩
  rfl
theorem law_true (ns : List Int) (hl : ns.length ≤ 63) : ∃ st, r_law [.scr (ns.map W.int)] st0 = .ok (.bl true) st := by
  obtain ⟨w, s, e, rfl⟩ := wp_get (law_run ns hl)
  exact ⟨s, e⟩
end Lw
namespace Lw
open PySem PySem.Spec PyProof.Rows L2 Mi
def spLawT (K : PySem.W.Frag) (cs : List (Addr × Addr)) : Sp := fun vs H Q _ => ∃ (a : Addr) (ns : List Int), vs = [.ref a] ∧ SqL K H a (ns.map V.int) ∧ ns.length ≤ 63 ∧ (∀ p ∈ cs, H p.2 = some (.tbl #[])) ∧ ∀ H', Q (.bl true) H'
theorem law_fn {P : Program} {w : World} {K : PySem.W.Frag} {mg : Str → Option Value} {base : Heap} (x : Tx K mg) (tb : x.TB base) (H0 : ∀ ns : List Int, ns.length ≤ 63 → ∃ st, r_law [.scr (ns.map W.int)] st0 = .ok (.bl true) st) : FnOk P w K mg base (L2.CX P w) 10 x.a_law x.d_law ["script"] (spLawT K x.cs) := by
  refine (fn_law x tb).imp fun vs H Q E h => ?_
  obtain ⟨a, ns, e, hs, hl, ht, q⟩ := h
  subst e
  obtain ⟨st, hr⟩ := H0 ns hl
  have t0 : H x.P_law_deed = some (.tbl #[]) := ht (x.c_law_deed, x.P_law_deed) (by simp [Tx.cs])
  refine ⟨[x.P_law_deed], [], st0, [.scr (ns.map W.int)], ⟨by simp, rfl, by simp, by simp, ?_⟩, VRs.cons ?_ VRs.nil, rfl, ?_⟩
  · intro i n b e1 e2
    cases i with
    | zero =>
      cases e1
      cases e2
      exact ⟨rfl, #[], t0, tab_nil, fun pos cv z => nomatch z⟩
    | succ i => cases e2
  · simp only [VR]
    refine ⟨a, _, rfl, hs.imp (fun h => ⟨?_, by simp, h⟩) id, vints⟩
    intro z
    rw [List.mem_singleton] at z
    subst z
    rcases h with h | ⟨o, h⟩ <;> (rw [t0] at h; cases h)
  · rw [hr]
    intro ρ' H' v g s r
    simp only [VR] at r
    rw [r]
    exact q H'
theorem walk {l : PySem.W.OpenLaw} {q : Program} {loose : List Str} {XP : (Str → Option Value) → Heap → Prop} {YP : World → Heap → Prop} {d : DefRec} {K : Params → PySem.W.Frag} {ts : List Addr} (hn : l.most = some 63) (hdf : d.params.defaults = [])
    (hY : ∀ (w : World) (h : Heap), YP w h → (K w.params).In h ∧ ∀ p : Addr, p ∈ ts → h.get? p = some (PySem.W.tabObj #[])) (H0 : ∀ ns : List Int, ns.length ≤ 63 → ∃ st, r_law [.scr (ns.map W.int)] st0 = .ok (.bl true) st)
    (F : ∀ (w : World) (mg : Str → Option Value) (fa : Addr) (h : Heap), (K w.params).In h → h.Ns mainGlobals mg → mg d.name = some (.ref fa) → ∃ x : Tx (K w.params) mg, x.a_law = fa ∧ (∀ p ∈ x.cs, PySem.W.codeHdIn (K w.params) p.1 p.2 = true) ∧ (∀ p ∈ x.cs, (K w.params).lookup p.2 = none) ∧ (∀ p ∈ x.cs, p.2 ∈ ts)) :
    PySem.W.WalkO q loose XP YP l.row.toRowW d [] (fun f vs => PySem.call f vs) := by
  refine LamX.walk_ofTs (n := 63) (k := 10) (x := "script") (CX := fun w => L2.CX l.prog w) hn (by decide) hdf ⟨rfl, by decide, by decide⟩ (fun w h Y => (hY w h Y).1) (fun w mg fa h Y hK hG hm => ?_) (fun w H s e s' z => ?_)
  · obtain ⟨x, e, h1, h2, h3⟩ := F w mg fa h hK hG hm
    subst e
    exact ⟨x.d_law, x.cs, spLawT (K w.params) x.cs, fun p hp => (hY w h Y).2 p.2 (h3 p hp), h2, fun p hp => PySem.W.codeHd_of_K hK (h1 p hp), x.bl, fun H a ns hl _ ht hS => ⟨a, ns, rfl, hS, hl, ht, fun _ => rfl⟩, fun base _ _ tb => law_fn x tb H0⟩
  · obtain ⟨_, _, _, _, _, _, _, _, _, _, _, _, z⟩ := z
    exact z.elim
end Lw
open PySem PySem.W PyProof.Rows in
set_option maxRecDepth 100000 in
set_option maxHeartbeats 0 in
theorem PySem.Challenge.cw_wholecommits_k01_whole_lives_of_disks_holds : PySem.Challenge.rw_wholecommits_k01_whole_lives_of_disks.Holds := by
  w_on; o_law; k_head; (case hw => w_witness2)
  k_fill
  refine Lw.walk (l := PySem.Challenge.rw_wholecommits_k01_whole_lives_of_disks) rfl rfl (fun w h Y => Y) Lw.law_true ?F
  case F =>
    intro w mg fa h KX G hmg
    refine' Lw.all_mk (w := w) KX G hmg ?aC_Disk ?aC_Stopped ?aC_NothingWaits ?aC_StoreError ?a0 ?l0 ?c0 ?k0 ?a1 ?l1 ?c1 ?k1 ?a2 ?l2 ?c2 ?k2 ?a3 ?l3 ?c3 ?k3 ?a4 ?i4 ?l4 ?c4 ?k4 ?a5 ?l5 ?c5 ?k5 ?a6 ?l6 ?c6 ?k6 ?a7 ?l7 ?c7 ?k7 ?a8 ?l8 ?c8 ?k8 ?a9 ?l9 ?c9 ?k9 ?a10 ?i10 ?l10 ?c10 ?k10 ?a11 ?i11 ?l11 ?c11 ?k11 ?a12 ?l12 ?c12 ?k12 ?a13 ?l13 ?c13 ?k13 ?a14 ?l14 ?c14 ?k14 ?a15 ?l15 ?c15 ?k15 ?a16 ?i16 ?l16 ?c16 ?k16 ?a17 ?l17 ?c17 ?k17 ?a18 ?i18 ?l18 ?c18 ?k18 ?a19 ?i19 ?l19 ?c19 ?k19 ?a20 ?l20 ?c20 ?k20 ?a21 ?l21 ?c21 ?k21 ?a22 ?i22 ?l22 ?c22 ?k22 ?a23 ?i23 ?l23 ?c23 ?k23 ?a24 ?i24 ?l24 ?c24 ?k24 ?a25 ?l25 ?c25 ?k25 ?a26 ?i26 ?l26 ?c26 ?k26 ?a27 ?i27 ?l27 ?c27 ?k27 ?a28 ?i28 ?l28 ?c28 ?k28 ?a29 ?i29 ?l29 ?c29 ?k29 ?a30 ?i30 ?l30 ?c30 ?k30 ?a31 ?l31 ?c31 ?k31 ?a32 ?l32 ?tc32 ?tn32 ?tm32 ?c32 ?k32 ?a33 ?i33 ?l33 ?c33 ?k33 ?a34 ?l34 ?c34 ?k34 ?a35 ?l35 ?c35 ?k35 ?pg_Disk ?hd_Disk ?po_Disk ?sa_Disk ?ex_Stopped ?ek_Stopped ?es_Stopped ?et_Stopped ?ei_Stopped ?kb_Stopped_ValueError ?xg_Stopped ?xk_Stopped ?xd_Stopped ?xa_Stopped ?xo_Stopped ?xn_all ?xt_all ?kt_Stopped_StoreError ?su_Stopped_NothingWaits ?su_Stopped_Stopped ?ex_NothingWaits ?ek_NothingWaits ?es_NothingWaits ?et_NothingWaits ?ei_NothingWaits ?kb_NothingWaits_ValueError ?xg_NothingWaits ?xk_NothingWaits ?xd_NothingWaits ?xa_NothingWaits ?xo_NothingWaits ?kt_NothingWaits_StoreError ?su_NothingWaits_NothingWaits ?su_NothingWaits_Stopped ?ex_StoreError ?ek_StoreError ?es_StoreError ?et_StoreError ?ei_StoreError ?kb_StoreError_ValueError ?xg_StoreError ?xk_StoreError ?xd_StoreError ?xa_StoreError ?xo_StoreError ?kt_StoreError_StoreError ?su_StoreError_NothingWaits ?su_StoreError_Stopped ?mk_Disk ?kc_Disk ?nf_arrived_Disk ?nf_cached_Disk ?nf_contents_Disk ?nf_left_Disk ?co_FEWEST_BLOCKS ?co_GREATEST_ITEM ?co_LONGEST_CONTENT ?co_LONGEST_WORD ?co_MOST_BLOCKS ?co_MOST_POWER ?zb_ValueError ?zb_abs ?zb_all ?zb_bool ?zb_dict ?zb_int ?zb_isinstance ?zb_len ?zb_list ?zb_range ?zb_set ?zb_sorted ?zb_str ?zb_tuple
    (case aC_Disk => k_is)
    (case aC_Stopped => k_is)
    (case aC_NothingWaits => k_is)
    (case aC_StoreError => k_is)
    (case a0 => k_is)
    (case l0 => k_is)
    (case c0 => k_is)
    (case k0 => k_is)
    (case a1 => k_is)
    (case l1 => k_is)
    (case c1 => k_is)
    (case k1 => k_is)
    (case a2 => k_is)
    (case l2 => k_is)
    (case c2 => k_is)
    (case k2 => k_is)
    (case a3 => k_is)
    (case l3 => k_is)
    (case c3 => k_is)
    (case k3 => k_is)
    (case a4 => k_is)
    (case i4 => k_is)
    (case l4 => k_is)
    (case c4 => k_is)
    (case k4 => k_is)
    (case a5 => k_is)
    (case l5 => k_is)
    (case c5 => k_is)
    (case k5 => k_is)
    (case a6 => k_is)
    (case l6 => k_is)
    (case c6 => k_is)
    (case k6 => k_is)
    (case a7 => k_is)
    (case l7 => k_is)
    (case c7 => k_is)
    (case k7 => k_is)
    (case a8 => k_is)
    (case l8 => k_is)
    (case c8 => k_is)
    (case k8 => k_is)
    (case a9 => k_is)
    (case l9 => k_is)
    (case c9 => k_is)
    (case k9 => k_is)
    (case a10 => k_is)
    (case i10 => k_is)
    (case l10 => k_is)
    (case c10 => k_is)
    (case k10 => k_is)
    (case a11 => k_is)
    (case i11 => k_is)
    (case l11 => k_is)
    (case c11 => k_is)
    (case k11 => k_is)
    (case a12 => k_is)
    (case l12 => k_is)
    (case c12 => k_is)
    (case k12 => k_is)
    (case a13 => k_is)
    (case l13 => k_is)
    (case c13 => k_is)
    (case k13 => k_is)
    (case a14 => k_is)
    (case l14 => k_is)
    (case c14 => k_is)
    (case k14 => k_is)
    (case a15 => k_is)
    (case l15 => k_is)
    (case c15 => k_is)
    (case k15 => k_is)
    (case a16 => k_is)
    (case i16 => k_is)
    (case l16 => k_is)
    (case c16 => k_is)
    (case k16 => k_is)
    (case a17 => k_is)
    (case l17 => k_is)
    (case c17 => k_is)
    (case k17 => k_is)
    (case a18 => k_is)
    (case i18 => k_is)
    (case l18 => k_is)
    (case c18 => k_is)
    (case k18 => k_is)
    (case a19 => k_is)
    (case i19 => k_is)
    (case l19 => k_is)
    (case c19 => k_is)
    (case k19 => k_is)
    (case a20 => k_is)
    (case l20 => k_is)
    (case c20 => k_is)
    (case k20 => k_is)
    (case a21 => k_is)
    (case l21 => k_is)
    (case c21 => k_is)
    (case k21 => k_is)
    (case a22 => k_is)
    (case i22 => k_is)
    (case l22 => k_is)
    (case c22 => k_is)
    (case k22 => k_is)
    (case a23 => k_is)
    (case i23 => k_is)
    (case l23 => k_is)
    (case c23 => k_is)
    (case k23 => k_is)
    (case a24 => k_is)
    (case i24 => k_is)
    (case l24 => k_is)
    (case c24 => k_is)
    (case k24 => k_is)
    (case a25 => k_is)
    (case l25 => k_is)
    (case c25 => k_is)
    (case k25 => k_is)
    (case a26 => k_is)
    (case i26 => k_is)
    (case l26 => k_is)
    (case c26 => k_is)
    (case k26 => k_is)
    (case a27 => k_is)
    (case i27 => k_is)
    (case l27 => k_is)
    (case c27 => k_is)
    (case k27 => k_is)
    (case a28 => k_is)
    (case i28 => k_is)
    (case l28 => k_is)
    (case c28 => k_is)
    (case k28 => k_is)
    (case a29 => k_is)
    (case i29 => k_is)
    (case l29 => k_is)
    (case c29 => k_is)
    (case k29 => k_is)
    (case a30 => k_is)
    (case i30 => k_is)
    (case l30 => k_is)
    (case c30 => k_is)
    (case k30 => k_is)
    (case a31 => k_is)
    (case l31 => k_is)
    (case c31 => k_is)
    (case k31 => k_is)
    (case a32 => k_is)
    (case l32 => k_is)
    (case tc32 => kernel_rfl)
    (case tn32 => kernel_rfl)
    (case tm32 => kernel_rfl)
    (case c32 => k_is)
    (case k32 => k_is)
    (case a33 => k_is)
    (case i33 => k_is)
    (case l33 => k_is)
    (case c33 => k_is)
    (case k33 => k_is)
    (case a34 => k_is)
    (case l34 => k_is)
    (case c34 => k_is)
    (case k34 => k_is)
    (case a35 => k_is)
    (case l35 => k_is)
    (case c35 => k_is)
    (case k35 => k_is)
    (case pg_Disk => k_is)
    (case hd_Disk => k_is)
    (case po_Disk => k_is)
    (case sa_Disk => k_is)
    (case ex_Stopped => k_exc)
    (case ek_Stopped => k_is)
    (case es_Stopped => k_is)
    (case et_Stopped => k_is)
    (case ei_Stopped => k_is)
    (case kb_Stopped_ValueError => first | rfl | k_is)
    (case xg_Stopped => k_is)
    (case xk_Stopped => k_is)
    (case xd_Stopped => k_is)
    (case xa_Stopped => k_is)
    (case xo_Stopped => k_is)
    (case xn_all => k_is)
    (case xt_all => k_is)
    (case kt_Stopped_StoreError => first | rfl | k_is)
    (case su_Stopped_NothingWaits => first | rfl | k_is)
    (case su_Stopped_Stopped => first | rfl | k_is)
    (case ex_NothingWaits => k_exc)
    (case ek_NothingWaits => k_is)
    (case es_NothingWaits => k_is)
    (case et_NothingWaits => k_is)
    (case ei_NothingWaits => k_is)
    (case kb_NothingWaits_ValueError => first | rfl | k_is)
    (case xg_NothingWaits => k_is)
    (case xk_NothingWaits => k_is)
    (case xd_NothingWaits => k_is)
    (case xa_NothingWaits => k_is)
    (case xo_NothingWaits => k_is)
    (case kt_NothingWaits_StoreError => first | rfl | k_is)
    (case su_NothingWaits_NothingWaits => first | rfl | k_is)
    (case su_NothingWaits_Stopped => first | rfl | k_is)
    (case ex_StoreError => k_exc)
    (case ek_StoreError => k_is)
    (case es_StoreError => k_is)
    (case et_StoreError => k_is)
    (case ei_StoreError => k_is)
    (case kb_StoreError_ValueError => first | rfl | k_is)
    (case xg_StoreError => k_is)
    (case xk_StoreError => k_is)
    (case xd_StoreError => k_is)
    (case xa_StoreError => k_is)
    (case xo_StoreError => k_is)
    (case kt_StoreError_StoreError => first | rfl | k_is)
    (case su_StoreError_NothingWaits => first | rfl | k_is)
    (case su_StoreError_Stopped => first | rfl | k_is)
    (case mk_Disk => k_is)
    (case kc_Disk => k_is)
    (case nf_arrived_Disk => k_is)
    (case nf_cached_Disk => k_is)
    (case nf_contents_Disk => k_is)
    (case nf_left_Disk => k_is)
    (case co_FEWEST_BLOCKS => k_is)
    (case co_GREATEST_ITEM => k_is)
    (case co_LONGEST_CONTENT => k_is)
    (case co_LONGEST_WORD => k_is)
    (case co_MOST_BLOCKS => k_is)
    (case co_MOST_POWER => k_is)
    (case zb_ValueError => k_is)
    (case zb_abs => k_is)
    (case zb_all => k_is)
    (case zb_bool => k_is)
    (case zb_dict => k_is)
    (case zb_int => k_is)
    (case zb_isinstance => k_is)
    (case zb_len => k_is)
    (case zb_list => k_is)
    (case zb_range => k_is)
    (case zb_set => k_is)
    (case zb_sorted => k_is)
    (case zb_str => k_is)
    (case zb_tuple => k_is)
