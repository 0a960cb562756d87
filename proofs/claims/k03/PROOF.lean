import PyProof.Rows.All
import Wide.All
import OpenK.AllK
import Wide.FinOn
import PySem.Challenge.RW_matchgift_k03_what_parts_them
import HandS.ForMost
import HandS.IsInst
import HandS.TupAny
import HandS.TupMul
import HandS.Wide
import HandS.Flow
import HandS.RaiseMore
import PyProof.ReprRoads
import KE.GoesNew
import KE.KTupSum
import HandS.Walk
import HandS.WideBits
import PyProof.Rows.BitMore
set_option Elab.async false
set_option linter.all false
set_option maxRecDepth 100000
set_option maxHeartbeats 2000000
/-! MG: promises of defs that are called where no repr is under way, and repr of data by them. -/
namespace MG
open PySem PySem.Spec PyProof.Rows L2

structure FnG (P : Program) (w : World) (K : PySem.W.Frag) (mg : Str → Option Value) (base : Heap) (k : Nat)
    (f : Addr) (fd : FuncData) (ps : List Str) (sp : Sp) : Prop where
  len : ∀ vs H Q E, sp vs H Q E → vs.length = ps.length
  run : ∀ (A : Around) (outer : List Env) (s : Shared) (H : Hp) (args : Args) (us : List Value) (vs : List V) (Q : VK) (E : XK),
    A.guards = some [] → Room k A → Env0 P w K mg base A outer s H →
    BindsTo s fd args (ps.zip us) → Vals vs us → sp vs H Q E →
    codeAny (model P w) A (.call (.ref f) args) (CR CX0 outer P w H s Q E) s

section
variable {P : Program} {w : World} {K : PySem.W.Frag} {mg : Str → Option Value} {base : Heap}
theorem FnG.of {k : Nat} {f : Addr} {fd : FuncData} {ps : List Str} {sp : Sp}
    (F : FnOk P w K mg base CX0 k f fd ps sp) : FnG P w K mg base k f fd ps sp :=
  ⟨F.len, fun A outer s H args us vs Q E _ => F.run A outer s H args us vs Q E⟩

theorem okG {x qual : Str} {st : Stmt} {f : Addr} {fd : FuncData} {N ps : List Str} {k : Nat} {sp : Sp}
    (F : Fun K x qual st f fd) (S : FnScope N ps (defScope st))
    (hlen : ∀ vs H Q E, sp vs H Q E → vs.length = ps.length)
    (body : ∀ (cdv : Value) (A : Around) (outer : List Env) (s : Shared) (H : Hp) (vs : List V) (Q : VK) (E : XK),
      A.guards = some [] → Room k (A.deeper (envOfC qual (defScope st) s.heap.objs.size f cdv)) → sp vs H Q E →
      ∃ t, PSs (cxOf CX0 P w K mg base N qual (defScope st) f cdv A outer s H E).nox (defBody st) t ∧
        t { nx := fun _ H' => Q .non H', rt := Q } (start N vs) H) :
    FnG P w K mg base (k + 1) f fd ps sp := by
  obtain ⟨oc, od, kV, doc, pm, an, cdv, ct, osl, rfl, lk, hcd⟩ := F.ex
  refine ⟨hlen, ?_⟩
  intro A outer s H args us vs Q E gd room e0 bnd rel want
  have inK : K.In s.heap := e0.mod.kin.keeps (fun b o q => (e0.bs b o q).left)
  have noLim : s.heap.NoLimit := e0.mod.nolimit.keeps (fun b o q => (e0.bs b o q).left)
  refine codeAny_call_function room.depth (inK _ _ lk) rfl S.co S.gen rfl
    (PySem.W.codeRec_of inK hcd) (bnd _ _ _ _ ?_)
  refine wpAny_newFunctionEnv_cells S.kind ?_ ?_
  · rintro ⟨n, v⟩ hy
    rcases S.par n (List.of_mem_zip hy).1 with loc | cel
    · exact Or.inl loc
    · exact Or.inr ⟨cel, PySem.W.cellsFrom_some _ _ _ (Or.inl cel)⟩
  · intro env he s1 x
    subst he
    refine ⟨noLim.keeps x.toInCall.keep, codeAny_func ?_⟩
    obtain ⟨t, ht0, hq⟩ := body cdv A outer s H vs Q E gd (room.deeper _) want
    have ht := ht0.nox
    have I := inv_start (CX := CX0) (N := N) (qual := qual) (f := f) (cd := cdv) (E := E) S room.hd e0 (hlen _ _ _ _ want) rel x
    refine wpAny_mono (ht.run [] s1 (start N vs) H _ I hq) ?_ (fun _ _ z => z)
    intro fl s' hs
    cases fl with
    | ret u =>
      obtain ⟨v, σ', H', J, rv, q⟩ := hs
      exact ⟨v, H', J.os, J.bare, J.base, J.hok, rv, q⟩
    | next =>
      obtain ⟨σ', H', J, q⟩ := hs
      exact ⟨V.non, H', J.os, J.bare, J.base, J.hok, rfl, q⟩
    | brk =>
      obtain ⟨_, _, _, q⟩ := hs
      exact q.elim
    | cont =>
      obtain ⟨_, _, _, q⟩ := hs
      exact q.elim
end

section
variable {X : Cx} {k : Nat} {f : Addr} {fd : FuncData} {ps : List Str} {sp : Sp} {E : XK} {x : Str} {p pos : Pos}
  {e : Expr} {es : List Expr} {t : TA}
/-- f(e, ..) of such a def -/
theorem pe_callG (F : FnG X.prog X.w X.K X.mg X.base k f fd ps sp) (gd : X.A.guards = some []) (hr : Room k X.A) (hg : Gl X x)
    (hm : X.mg x = some (.ref f)) (hk : PySem.W.keepIn X.K (.ref f) = true) (hb : Binds X.K fd ps []) (ha : PA X (e :: es) t)
    (hdb : (x == ("__debug__" : Str)) = false := by decide)
    (he : starEach (e :: es) X.env = (false, eval e X.env) :: starEach es X.env := by rfl)
    (hpl : (backTo pos (starEach es X.env)).any (·.1) = false := by rfl) :
    PE X (.Call (.Name x p) (e :: es) [] pos) (tCall sp [] E t) := by
  constructor
  intro pins s σ H Q I h
  refine wpAny_Call_Name_kw (ld_glob I hg hm ?_ hdb)
  refine PySem.W.callWith_K (h₀ := X.base) I.ok.mod.kin hk ?_ he hpl
  refine thn (ha.run pos pins s σ H _ I h) ?_
  rintro us s1 ⟨vs, H1, I1, r, q⟩
  refine ⟨I1.kIn, ?_⟩
  have q' : sp (vs ++ []) H1 Q E := q
  rw [List.append_nil] at q'
  have hl : us.length = ps.length := by
    rw [← r.length]
    exact F.len _ _ _ _ q'
  have hb' := hb s1 us I1.kIn (by simpa using hl)
  rw [List.append_nil] at hb'
  refine wpAny_call (codeAny_mono (F.run X.A X.stack s1 H1 ⟨us, []⟩ us vs Q E gd hr I1.env0 hb' r q') ?_)
  intro res s' hq
  cases res with
  | error e => exact False.elim hq
  | ok fl =>
    cases fl with
    | ret u => exact I1.after hq
    | next => exact False.elim hq
    | brk => exact False.elim hq
    | cont => exact False.elim hq
end
end MG

namespace MG
open PySem PySem.Spec PyProof.Rows L2

def SysD (h : Heap) : Prop := ∃ mm, h.Ns sysModules mm
theorem lawG {P : Program} {w : World} {K : PySem.W.Frag} {mg mb : Str → Option Value} {k : Nat} {fa a : Addr} {fd : FuncData} {x : Str}
    {sp : Sp} {s₁ : Shared} {vs : List Value} {ns : List Int}
    (KX : K.In s₁.heap) (hns : s₁.heap.Ns mainGlobals mg) (hb : s₁.heap.Ns builtinsNs mb)
    (hbb : ∀ x : Str, x ≠ "__name__" → mb x = bootBuiltins x) (hlim : s₁.heap.NoLimit) (hsys : SysD s₁.heap) (hg : s₁.gens = #[])
    (ha : s₁.heap.get? a = some { cls := .type "list", data := .seq vs.toArray }) (hi : IntsAre vs ns)
    (hl : ns.length ≤ sizeLine) (hr : Room k callerA)
    (F : ∀ base : Heap, K.In base → base.Ns mainGlobals mg → SysD base → FnG P w K mg base k fa fd [x] sp)
    (hbind : ∀ (s : Shared) (u : Value), BindsTo s fd ⟨[u], []⟩ [(x, u)])
    (hsp : ∀ H : Hp, Only H → SqL K H a (ns.map V.int) → sp [.ref a] H (fun v _ => v = .bl true) fun _ _ _ => False) :
    codeAny (model P w) callerA (.call (.ref fa) ⟨[.ref a], []⟩)
      (fun r s' => r = .ok (.ret (.bool true)) ∧ OldK s₁.heap s'.heap ∧ s'.os = s₁.os ∧ AllBare s'.gens) s₁ := by
  have rels := vals_ints hi
  have sizes := hi.length
  have go : ∀ H : Hp, Only H → SqL K H a (ns.map V.int) → HOk P w H s₁.heap → (∀ b, H b ≠ none → b = a) →
      (H a ≠ none → K.lookup a = none) →
      codeAny (model P w) callerA (.call (.ref fa) ⟨[.ref a], []⟩)
        (fun r s' => r = .ok (.ret (.bool true)) ∧ OldK s₁.heap s'.heap ∧ s'.os = s₁.os ∧ AllBare s'.gens) s₁ := by
    intro H only sq ok justA noK
    have dictFree : ∀ {b : Addr} {o : Obj} {es : Array DictEntry} {ep : Nat}, s₁.heap.get? b = some o → o.data = .dict es ep → H b = none := by
      intro b o es ep hget hdat
      cases hH : H b with
      | none => rfl
      | some u =>
        obtain rfl : b = a := justA b (by rw [hH]; exact fun z => nomatch z)
        rw [ha] at hget
        cases hget
        exact (nomatch (show Data.seq vs.toArray _ = Data.dict es ep from hdat))
    have nsHid : ∀ {b : Addr} {m : Str → Option Value}, s₁.heap.Ns b m → (hidT s₁.heap H).Ns b m := by
      rintro b m ⟨o, es, ep, h1, h2, h3⟩
      exact ⟨o, es, ep, hidT_get h1 (dictFree h1 h2), h2, h3⟩
    have kHid : K.In (hidT s₁.heap H) := by
      intro b o look
      refine hidT_get (KX b o look) ?_
      cases hH : H b with
      | none => rfl
      | some u =>
        obtain rfl : b = a := justA b (by rw [hH]; exact fun z => nomatch z)
        have z := noK (by rw [hH]; exact fun z => nomatch z)
        rw [z] at look
        cases look
    have modl : Mod K mg (hidT s₁.heap H) := by
      obtain ⟨mc, l1, l2⟩ := hlim
      exact ⟨kHid, nsHid hns, ⟨mb, nsHid hb, hbb⟩, ⟨mc, nsHid l1, l2⟩⟩
    have e0 : Env0 P w K mg (hidT s₁.heap H) callerA [] s₁ H :=
      { frames := rfl
        mod := modl
        bs := fun b o q => of_hidT q
        bsz := Nat.le_of_eq (hidT_size _ _)
        funs := trivial
        frf := fun b hb => absurd (show b ∈ ([] : List Addr) from hb) List.not_mem_nil
        hok := ok
        bare := .of_eq hg }
    refine codeAny_mono ((F _ kHid (nsHid hns) (let ⟨mm, q⟩ := hsys; ⟨mm, nsHid q⟩)).run callerA [] s₁ H ⟨[.ref a], []⟩ [.ref a] [.ref a] _ _ rfl hr e0
      (hbind s₁ (.ref a)) (.cons rfl .nil) (hsp H only sq)) ?_
    intro r s' h
    cases r with
    | error e => exact False.elim h
    | ok fl =>
      cases fl with
      | next => exact False.elim h
      | brk => exact False.elim h
      | cont => exact False.elim h
      | ret u =>
        obtain ⟨v, H', hos, hbare, un, ok', rel, q⟩ := h
        obtain rfl : v = .bl true := q
        obtain rfl : u = Value.bool true := rel
        refine ⟨rfl, OldK.of_keep ?_, hos, hbare⟩
        intro b o hget
        rcases only b with hn | ⟨ob, xs, hf⟩
        · exact un.keep b o hget hn (fun z => absurd (show b ∈ ([] : List Addr) from z) List.not_mem_nil) List.not_mem_nil
        · have q1 := (ok b _ hf).1
          have q2 := (ok' b _ (un.frzs b ob _ hf)).1
          rw [hget] at q1
          cases q1
          exact q2
  cases hk : K.lookup a with
  | none =>
    let ob : Obj := { cls := .type "list", data := .seq vs.toArray }
    let H : Hp := fun b => if b = a then some (.frz ob (.lst (ns.map V.int))) else none
    have atA : H a = some (.frz ob (.lst (ns.map V.int))) := if_pos rfl
    have off : ∀ b, b ≠ a → H b = none := fun b hb => if_neg hb
    refine go H ?_ (.inl (.inr ⟨ob, atA⟩)) ?_ ?_ (fun _ => hk)
    · intro b
      by_cases hb : b = a
      · subst hb; exact .inr ⟨_, _, atA⟩
      · exact .inl (off b hb)
    · intro b u z
      by_cases hb : b = a
      · subst hb
        rw [atA] at z
        cases z
        exact ⟨ha, by rw [List.length_map]; exact hl, vs, _, rels, ha⟩
      · rw [off b hb] at z
        cases z
    · intro b z
      by_cases hb : b = a
      · exact hb
      · exact absurd (off b hb) z
  | some o =>
    have e := KX a o hk
    rw [ha] at e
    cases e
    exact go (fun _ => none) (fun _ => .inl rfl)
      (.inr ⟨_, vs.toArray, _, hk, rfl, rfl, rfl, by rw [List.size_toArray, sizes]; exact hl, by simpa using rels⟩)
      (fun b u z => nomatch (show (none : Option HO) = some u from z)) (fun b z => absurd rfl z) (fun z => absurd rfl z)

theorem walkG {l : PySem.W.OpenLaw} {n k : Nat} {q : Program} {loose : List Str} {XP : (Str → Option Value) → Heap → Prop}
    {YP : World → Heap → Prop} {d : DefRec} {K : Params → PySem.W.Frag} {sp : PySem.W.Frag → Sp} {x : Str}
    (hn : l.most = some n) (hn2 : n ≤ sizeLine) (hdf : d.params.defaults = []) (hr : Room k callerA) (hq : importsNone q = true)
    (hY : ∀ (w : World) (h : Heap), YP w h → (K w.params).In h)
    (F : ∀ (w : World) (mg : Str → Option Value) (fa : Addr) (h : Heap), (K w.params).In h → h.Ns mainGlobals mg → mg d.name = some (.ref fa) →
      ∃ fd : FuncData, (∀ (s : Shared) (u : Value), BindsTo s fd ⟨[u], []⟩ [(x, u)]) ∧
        ∀ base : Heap, (K w.params).In base → base.Ns mainGlobals mg → SysD base → FnG l.prog w (K w.params) mg base k fa fd [x] (sp (K w.params)))
    (hsp : ∀ (K : PySem.W.Frag) (H : Hp) (a : Addr) (ns : List Int), ns.length ≤ n → Only H → SqL K H a (ns.map V.int) →
      sp K [.ref a] H (fun v _ => v = .bl true) fun _ _ _ => False) :
    PySem.W.WalkO q loose XP YP l.row.toRowW d [] (fun f vs => PySem.call f vs) := by
  refine Att.attach_call hn hdf ?_
  intro w s₀ s₁ mg mb fa o pm cd doc a vs ns G Y _ _ _ hmg hobj hints hlen hg
  have KX := hY w _ Y
  obtain ⟨fd, hbd, hF⟩ := F w mg fa _ KX G.T.g hmg
  exact lawG KX G.T.g G.T.b G.T.builtins G.T.nolimit (let ⟨mm, q, _⟩ := (G.T.seer hq).mods; ⟨mm, q⟩) hg hobj hints (Nat.le_trans hlen hn2) hr hF hbd
    (fun H hO hS => hsp _ H a ns hlen hO hS)
end MG

namespace MG
open PySem PySem.Spec PyProof.Rows L2

/-- behind enumerate(v): v's iterator, and who counts beside it -/
abbrev counts (g : Heap) (o : Obj) : Heap :=
  (g.push o).push { cls := .type "enumerate", data := .fields #[.none, .bool false, .ref g.objs.size, rawInt 0, .none, .none] }
theorem counts_new {v : Value} {o : Obj} {S : Heap → Prop} (B : Begins v o S) :
    PySem.Meets (Builtin.«enumerate.__new__» ⟨[.type "enumerate", v], []⟩) (fun _ R s =>
      S s.heap ∧ R (.ok (.ret (.ref (s.heap.push o).objs.size))) { s with heap := counts s.heap o }) := by
  refine .of_wp fun prog w A R s want => ?_
  obtain ⟨g, gens, drawn, tk, os⟩ := s
  have own := sub_enumerate
  have begun : ∀ {A' : Around} {Q E' : Value → Shared → Prop}, Q (.ref g.objs.size) ⟨g.push o, gens, drawn, tk, os⟩ →
      wpAny (model prog w) A' (pyIter v) Q E' ⟨g, gens, drawn, tk, os⟩ := fun q => B.iter _ _ _ _ _ _ want.1 q
  wp_walk using begun
  refine wpAny_stack_any fun top => wpAny_pure ?_
  split
  case h_1 c _ _ _ _ _ =>
    cases c == Value.type "enumerate" <;> (wp_walk using begun; exact ⟨_, rfl, want.2⟩)
  case h_2 =>
    wp_walk using begun
    exact ⟨_, rfl, want.2⟩
theorem counts_call {prog : Program} {w : World} {A : Around} {E : Value → Shared → Prop} {s : Shared} {v : Value} {o : Obj} {S : Heap → Prop}
    {Q : Value → Shared → Prop} (B : Begins v o S) (ready : S s.heap)
    (next : ∀ g, IsEnum g (s.heap.objs.size + 1) s.heap.objs.size 0 .none → g.get? s.heap.objs.size = some o →
      (∀ b u, s.heap.get? b = some u → g.get? b = some u) → Q (.ref (s.heap.objs.size + 1)) { s with heap := g }) :
    wpAny (model prog w) A (call (.type "enumerate") [v]) Q E s := by
  have up : (s.heap.push o).objs.size = s.heap.objs.size + 1 := Heap.size_push ..
  have first : (counts s.heap o).get? s.heap.objs.size = some o := Heap.get?_push_of_some _ (Heap.get?_push_size _ B.free)
  have second : (counts s.heap o).get? (s.heap.push o).objs.size = _ := Heap.get?_push_size _ rfl
  have rest : ∀ b u, s.heap.get? b = some u → (counts s.heap o).get? b = some u := fun _ _ at_ =>
    Heap.get?_push_of_some _ (Heap.get?_push_of_some _ at_)
  rw [up] at second
  refine callType_new F.called_enumerate (by decide) (F.typeCall_enumerate_1 v) (F.newCall_enumerate_1 v)
    (fun obj => F.args_object_init_2 obj v) F.entry_enumerate_new (counts_new B) ⟨ready, ?_⟩
  rw [up]
  exact ⟨⟨_, second, rfl⟩, next _ second first rest⟩
/-! ### walks that tell a new tuple each time -/
theorem not_tuple {g : Heap} {b c : Addr} {o : Obj} {items : Array Value} (t : IsTup g b items) (at_ : g.get? c = some o) (cls : o.cls ≠ .type "tuple") : b ≠ c := by
  obtain ⟨u, here, k, _⟩ := t
  intro e
  rw [e, at_] at here
  exact cls (by rw [Option.some.inj here]; exact k)
section told
variable {X : Cx} {pins : List (Addr × Obj)} {σ : L2.St} {H : Hp} {s : Shared} {ours : List Addr} {g : Heap} {tk : Nat}
/-- behind a walk's step: the tuple at T is new, our own objects are still nobody's -/
theorem told_new {T : Addr} {xs : List V} {us : List Value} (I : Inv X pins σ H s) (own : ∀ b ∈ ours, FpOk X pins H b)
    (live : ∀ b ∈ ours, ∃ o, s.heap.get? b = some o) (off : ∀ b o, b ∉ ours → s.heap.get? b = some o → g.get? b = some o)
    (new : s.heap.objs.size ≤ T) (made : IsTup g T us.toArray) (rel : Vals xs us) (few : xs.length ≤ sizeLine) :
    Inv X pins σ (upd H T (.tup xs)) { s with heap := g, toks := tk } ∧ H T = none ∧ ∀ b ∈ ours, upd H T (.tup xs) b = none :=
  ⟨I.turnedNew off own new ⟨few, us, rel, made⟩, I.hok.fresh new, fun b hb => by
    obtain ⟨o, at_⟩ := live b hb
    rw [upd_ne (Nat.ne_of_lt (Nat.lt_of_lt_of_le (Heap.lt_size at_) new))]
    exact (own b hb).1⟩
end told

/-! ### enumerate of a tuple -/
def IteT (K : PySem.W.Frag) (a : Addr) : It :=
  ⟨fun i H => ∃ (xs : List V) (x : V), SqT K H a xs ∧ xs[i]? = some x,
   fun i H v H' => ∃ T x, v = .ref T ∧ H T = none ∧ H' = upd H T (.tup [.int (i : Nat), x]) ∧ ∀ xs, SqT K H a xs → xs[i]? = some x,
   fun i H => ∃ xs : List V, SqT K H a xs ∧ xs.length = i⟩
/-- who counts at e, over the iterator at t of the tuple at a, i told -/
def EnT (a e t : Addr) (i : Nat) (g : Heap) : Prop := (∃ old, IsEnum g e t (i : Nat) old) ∧ g.IsTupleIter t a i ∧ e ≠ t
theorem EnT.live {a e t : Addr} {i : Nat} {g : Heap} (st : EnT a e t i g) : ∀ b ∈ [e, t], ∃ o, g.get? b = some o ∧ ∀ v, o.data ≠ .cell v := by
  obtain ⟨⟨old, he⟩, ⟨o, ho, _, dat⟩, _⟩ := st
  intro b hb
  cases hb with
  | head => exact ⟨_, he, fun v z => nomatch z⟩
  | tail _ hb =>
    obtain rfl := List.mem_singleton.mp hb
    exact ⟨o, ho, fun v z => nomatch (show Data.fields _ = Data.cell v from dat.symm.trans z)⟩
theorem turn_enumT {P : Program} {w : World} {K : PySem.W.Frag} {elts : List Expr} {kk : Nat} {tpos : Pos} (a e t : Addr) :
    Turn P w K (.Tuple elts kk tpos) (IteT K a) [e, t] e (EnT a e t) where
  mem := List.mem_cons_self
  obj := fun _ _ st => st.live
  keep := fun i g g' ⟨⟨old, he⟩, ht, ne⟩ k => ⟨⟨old, k e List.mem_cons_self _ he⟩, ht.at fun o => k t (List.mem_cons_of_mem _ List.mem_cons_self) o, ne⟩
  self := fun A i s Q E st q => by
    obtain ⟨⟨old, he⟩, _⟩ := st
    exact wpAny_pyIter_enum he q
  item := by
    intro X hP hw hK calm i pins s σ H E I own st go
    subst hP hw hK
    obtain ⟨xs, x, hq, hx⟩ := go
    obtain ⟨us, rel, tup, _⟩ := I.tuple hq
    obtain ⟨u, hu, ru⟩ := rel.get hx
    have live := st.live
    obtain ⟨⟨old, he⟩, ht, ne⟩ := st
    have at_ : a ≠ t := by
      obtain ⟨o, ho, cls, _⟩ := id ht
      exact not_tuple tup ho (by rw [cls]; decide)
    have ae : e ∉ [t, a] := by
      intro z
      cases z with
      | head => exact ne rfl
      | tail _ z => exact not_tuple tup he (by show Value.type "enumerate" ≠ .type "tuple"; decide) (List.mem_singleton.mp z).symm
    have walk := GoesN.enumFrom (elts := elts) (x1 := kk) (pos := tpos) 0
      (Draws.tuple (prog := X.prog) (w := X.w) (A := X.A.in1) (I.ok.hd calm) t a at_ us.toArray) e ne ae List.mem_cons_self
    refine walk.goes i s (fun v s2 => ∃ y H', Inv X pins σ H' s2 ∧ RelV y v ∧ (IteT X.K a).yld i H y H' ∧ EnT a e t (i + 1) s2.heap ∧ ∀ b ∈ [e, t], H' b = none) E
      ?_ ⟨⟨old, by rw [Int.zero_add]; exact he⟩, ht, tup⟩ ?_
    · rw [List.size_toArray]
      exact (List.getElem?_eq_some_iff.mp hu).1
    · rintro v g tk ⟨T, tok, y, rfl, new, hy, made⟩ ⟨⟨old2, he2⟩, ht2, _⟩ off _
      obtain rfl : y = u := Option.some.inj (by rw [← hu, ← hy, List.getElem?_toArray])
      rw [Int.zero_add] at made he2
      obtain ⟨J, free, none_⟩ := told_new (tk := tk) (xs := [.int (i : Nat), x]) (us := [.int i tok, y]) I own (fun b hb => let ⟨o, q, _⟩ := live b hb; ⟨o, q⟩) off new made
        (.cons ⟨tok, rfl⟩ (.cons ru .nil)) (by show 2 ≤ sizeLine; decide)
      exact ⟨.ref T, _, J, rfl, ⟨T, x, rfl, free, rfl, fun ys hy => by rw [I.tuple_inj hy hq]; exact hx⟩, ⟨⟨old2, he2⟩, ht2, ne⟩, none_⟩
  done := by
    intro X hP hw hK calm i pins s σ H E I own st go
    subst hP hw hK
    obtain ⟨xs, hq, rfl⟩ := go
    obtain ⟨us, rel, tup, _⟩ := I.tuple hq
    obtain ⟨⟨old, he⟩, ht, ne⟩ := st
    have at_ : a ≠ t := by
      obtain ⟨o, ho, cls, _⟩ := id ht
      exact not_tuple tup ho (by rw [cls]; decide)
    have ae : e ∉ [t, a] := by
      intro z
      cases z with
      | head => exact ne rfl
      | tail _ z => exact not_tuple tup he (by show Value.type "enumerate" ≠ .type "tuple"; decide) (List.mem_singleton.mp z).symm
    have walk := GoesN.enumFrom (elts := elts) (x1 := kk) (pos := tpos) 0
      (Draws.tuple (prog := X.prog) (w := X.w) (A := X.A.in1) (I.ok.hd calm) t a at_ us.toArray) e ne ae List.mem_cons_self
    have len : us.toArray.size = xs.length := by rw [List.size_toArray, rel.length]
    refine walk.stops s (fun s' => Inv X pins σ H s') E (by rw [len]; exact ⟨⟨old, by rw [Int.zero_add]; exact he⟩, ht, tup⟩) fun g tk off _ => I.turnedL (t' := tk) off own

def iEnumT (K : PySem.W.Frag) (ta : TA) : TI := fun σ H R => ta σ H fun vs H1 => ∃ a xs, vs = [.ref a] ∧ SqT K H1 a xs ∧ R (IteT K a) H1
theorem pi_enumT {X : Cx} {e : Expr} {ta : TA} {p pos tpos : Pos} {elts : List Expr} {kk : Nat} (hg : Gl X "enumerate")
    (hm : X.mg "enumerate" = none) (ha : PA X [e] ta) (hs : starEach [e] X.env = [(false, eval e X.env)] := by rfl) :
    PI X (.Tuple elts kk tpos) (.Call (.Name "enumerate" p) [e] [] pos) (iEnumT X.K ta) := by
  refine ⟨fun pins s σ H R I want => Call_ (ld_blt I hg hm boot_enumerate (PyProof.Rows.callWith_type1 (thn (ha.run pos pins s σ H _ I want) ?_) hs rfl))⟩
  rintro us s1 ⟨vs, H1, I1, rel, a, xs, rfl, hq, go⟩
  obtain rfl := rel.ref1
  obtain ⟨its, _, tup, _⟩ := I1.tuple hq
  refine counts_call (begins_tuple a its.toArray) tup fun g he ht up => wpAny_pyIter_enum he ?_
  have new : ∀ b ∈ [s1.heap.objs.size + 1, s1.heap.objs.size], s1.heap.objs.size ≤ b := by
    intro b hb
    simp only [List.mem_cons, List.not_mem_nil, or_false] at hb
    omega
  exact ⟨_, _, _, _, H1, rfl, I1.kept (t' := s1.toks) up, turn_enumT a (s1.heap.objs.size + 1) s1.heap.objs.size,
    ⟨⟨_, he⟩, ⟨_, ht, rfl, rfl⟩, Nat.succ_ne_self _⟩, fun b hb => I1.fpOk (new b hb) (I1.hok.fresh (new b hb)), go⟩
theorem walk_enumT {K : PySem.W.Frag} {a : Addr} {xs : List V} :
    Walk (IteT K a) xs.length (fun H => SqT K H a xs) (YPair (fun i => some (.int (i : Nat))) (fun i => xs[i]?)) := by
  refine ⟨fun i H lt q => ⟨xs, xs[i], q, List.getElem?_eq_getElem lt⟩, fun H q => ⟨xs, q, rfl⟩, ?_⟩
  rintro i H v H' _ q ⟨T, x, e, free, next, is⟩
  exact ⟨T, .int (i : Nat), x, e, free, next, rfl, is xs q⟩

/-! ### sum of a tuple of whole numbers -/
theorem sumT {X : Cx} (hc : X.calm = true) : CallR X (.builtin "sum") (fun vs H Q => ∃ (a : Addr) (ns : List Int),
    vs = [V.ref a] ∧ SqT X.K H a (ns.map V.int) ∧ Q (.int ns.sum) H) := by
  rintro pins s σ H xs us Q I r ⟨a, ns, rfl, hq, q⟩
  obtain rfl := r.ref1
  obtain ⟨its, rv, p, hz⟩ := I.tuple hq
  have hi : IntsAre its ns := rv.ints
  obtain ⟨ys, hy⟩ := hi.allInts.items
  have hn : numsOf its.toArray.toList = ns := by
    rw [show its.toArray.toList = its from rfl, hi.numsOf]
  have p' : s.heap.IsTuple a its.toArray := p
  rw [hy] at p' hn
  rw [nums_intItems] at hn
  refine PySem.W.ktm_sumG (I.ok.hd hc) p' ?_
  intro h' tk t' hk
  have e : preSum (numAt ys) ys.size = ns.sum := by
    rw [preSum_eq, List.take_of_length_le (by simp), hn]
  rw [e]
  exact ⟨.int ns.sum, H, I.kept hk, ⟨t', rfl⟩, q⟩

/-! ### a text so many times -/
def repText (z : Str) (n : Nat) : Str := ⟨(List.replicate n z.cps).foldl (· ++ ·) #[]⟩
theorem repS {X : Cx} : OpR X (binaryOp .Mult) (fun x y H Q => ∃ (z : Str) (n : Int), x = .str z ∧ y = .int n ∧ 2 ≤ n ∧ n ≤ 1000 ∧
    z.length = 1 ∧ (repText z n.toNat).length ≤ sizeLine ∧ Q (.str (repText z n.toNat)) H) := by
  rintro pins s σ H x y v u Q I rx ry ⟨z, n, rfl, rfl, h1, h2, hz, hs, q⟩
  obtain ⟨t, rfl⟩ := rx
  obtain ⟨t2, rfl⟩ := ry
  have c1 : ¬ n < 1 := by omega
  have c2 : (n == 1 || z.length == 0) = false := by
    rw [hz, show (n == 1) = false from beq_eq_false_iff_ne.mpr (by omega)]
    rfl
  refine PySem.P.mul_str ?_ ?_ ?_ ?_
  · rw [decide_eq_false (show ¬ n < -(2 ^ 63 : Int) by omega), decide_eq_false (show ¬ n ≥ 2 ^ 63 by omega)]
    rfl
  · intro _ _
    rw [hz]
    have : (1 : Int) ≤ (2 ^ 63 - 1) / n := by
      refine (Int.le_ediv_iff_mul_le (by omega)).mpr ?_
      omega
    omega
  · intro _ _
    show decide (z.length * n.toNat > sizeLine) = false
    rw [hz]
    refine decide_eq_false ?_
    rw [sizeLine_eq]
    omega
  · rw [if_neg c1, if_neg (by rw [c2]; exact Bool.false_ne_true)]
    exact ⟨hs, .str _, H, I.tok _, ⟨_, rfl⟩, q⟩

/-! ### a tuple so many times, once and never, too -/
theorem mulT_same (l : Addr) (items : Array Value) (n : Nat) (dd : Option Addr) (sl : Array (Option Value)) (x : Int) (u : Tok)
    (c1 : (items.isEmpty || x == 1) = true) (c0 : (decide (x < -(2 ^ 63)) || decide (x ≥ 2 ^ 63)) = false) :
    Meets (Builtin.«tuple.__mul__» ⟨[.ref l, .int x u], []⟩) (fun _ R s => s.heap.get? l = some { cls := .type "tuple", dict := dd, data := .seq items n, slots := sl } ∧
      R (.ok (.ret (Value.ref l))) s) :=
  .of_wp fun prog w A R s h => by
    obtain ⟨hp, g, d, tk, os⟩ := s
    obtain ⟨hl, h⟩ := h
    have f1 := AutoSeq1.idx_int
    wp_walk using AutoSeq1.wpAny_loadPart' hl
    repeat (first
      | (refine wpAny_ite_false (decide_eq_false (by rw [c0]; exact Bool.false_ne_true)) ?_; wp_walk using AutoSeq1.wpAny_loadPart' hl)
      | (refine wpAny_ite_true (decide_eq_true (by rw [c1])) ?_; wp_walk using AutoSeq1.wpAny_loadPart' hl))
    exact ⟨_, rfl, h⟩
end MG

namespace MG
open PySem PySem.Spec PyProof.Rows L2

theorem mulT_none (l : Addr) (items : Array Value) (n : Nat) (dd : Option Addr) (sl : Array (Option Value)) (u : Tok)
    (c1 : items.isEmpty = false) :
    Meets (Builtin.«tuple.__mul__» ⟨[.ref l, .int 0 u], []⟩) (fun _ R s =>
      s.heap.get? l = some { cls := .type "tuple", dict := dd, data := .seq items n, slots := sl } ∧
      R (.ok (.ret (Value.ref s.heap.objs.size))) { s with heap := s.heap.push { cls := Value.type "tuple", data := Data.seq #[] }, toks := s.toks }) :=
  .of_wp fun prog w A R s h => by
    obtain ⟨hp, g, d, tk, os⟩ := s
    obtain ⟨hl, h⟩ := h
    have f1 := AutoSeq1.idx_int
    have c2 : (items.isEmpty || (0 : Int) == 1) = false := by rw [c1]; rfl
    have c3 : (decide ((0 : Int) ≤ 0) || items.isEmpty) = true := rfl
    wp_walk using AutoSeq1.wpAny_loadPart' hl
    repeat (first
      | (refine wpAny_ite_false (decide_eq_false (by rw [c2]; exact Bool.false_ne_true)) ?_; wp_walk using AutoSeq1.wpAny_loadPart' hl)
      | (refine wpAny_ite_true (decide_eq_true (by rw [c3])) ?_; wp_walk using AutoSeq1.wpAny_loadPart' hl))
    exact ⟨_, rfl, h⟩

def rRepA (K : PySem.W.Frag) : R2 := fun x y H Q => ∃ l k xs, x = .ref l ∧ y = .int k ∧ SqT K H l xs ∧ xs ≠ [] ∧ 0 ≤ k ∧ k ≤ 1000 ∧
  xs.length ≤ 1000 ∧ (k = 1 → Q (.ref l) H) ∧ (k ≠ 1 → ∀ p, H p = none → Q (.ref p) (upd H p (.tup (List.replicate k.toNat xs).flatten)))
theorem op_repA {X : Cx} : OpR X (binaryOp .Mult) (rRepA X.K) := by
  rintro pins s σ H x y v u Q I rx ry ⟨l, k, xs, rfl, rfl, hT, hne, h1, h2, hz, q1, q2⟩
  by_cases hk : 2 ≤ k
  · exact op_repT pins s σ H _ _ v u Q I rx ry ⟨l, k, xs, rfl, rfl, hT, hne, hk, h2, hz, q2 (by omega)⟩
  · cases rx
    obtain ⟨t, rfl⟩ := ry
    obtain ⟨its, r, ⟨⟨cls, dd, data, sl⟩, ho, hc, n, hd⟩, hs⟩ := I.tuple hT
    simp only at hc hd
    subst hc hd
    have hi : its.toArray.isEmpty = false := by
      cases its with
      | nil =>
        have := r.length
        exact absurd (List.eq_nil_of_length_eq_zero this) hne
      | cons a b => rfl
    have ty : ∀ s' : Shared, s'.TypeIs (.int k t) "int" := fun s' => typeIs_int s' k t
    by_cases hk1 : k = 1
    · refine wpAny_binaryOp_repeat_ref (T := "tuple") (U := "int") (by decide) ⟨_, ho, rfl⟩ ty noFill_tuple_mul F.fills_int_mul
        F.slot_int_rmul repeat_tuple F.slot_int_index.lookup ?_
      refine call_meets F.slot_int_rmul (typeIs_int s k t) F.entry_int_rmul (F.args_int_rmul_2 _ _)
        (int_rmul_tuple k t l its.toArray n dd sl) ⟨ho, rfl, ⟨_, ho, rfl⟩, ?_⟩
      refine call_meets F.slot_tuple_mul ⟨_, ho, rfl⟩ F.entry_tuple_mul (F.args_tuple_mul_2 _ _)
        (mulT_same l its.toArray n dd sl k t (by rw [hk1, hi]; rfl) ?_) ⟨ho, ?_⟩
      · rw [decide_eq_false (show ¬ k < -(2 ^ 63 : Int) by omega), decide_eq_false (show ¬ k ≥ 2 ^ 63 by omega)]
        rfl
      · exact ⟨.ref l, H, I, rfl, q1 hk1⟩
    · have hk0 : k = 0 := by omega
      subst hk0
      refine wpAny_binaryOp_repeat_ref (T := "tuple") (U := "int") (by decide) ⟨_, ho, rfl⟩ ty noFill_tuple_mul F.fills_int_mul
        F.slot_int_rmul repeat_tuple F.slot_int_index.lookup ?_
      refine call_meets F.slot_int_rmul (typeIs_int s 0 t) F.entry_int_rmul (F.args_int_rmul_2 _ _)
        (int_rmul_tuple 0 t l its.toArray n dd sl) ⟨ho, rfl, ⟨_, ho, rfl⟩, ?_⟩
      refine call_meets F.slot_tuple_mul ⟨_, ho, rfl⟩ F.entry_tuple_mul (F.args_tuple_mul_2 _ _)
        (mulT_none l its.toArray n dd sl t hi) ⟨ho, ?_⟩
      refine ⟨.ref s.heap.objs.size, _, I.laid (t' := s.toks) (o := .tup []) (fun b ob q => Heap.get?_push_of_some _ q)
        (Nat.le_refl _) ?_, rfl, q2 hk1 _ (I.hok.fresh (Nat.le_refl _))⟩
      exact ⟨Nat.zero_le _, [], .nil, IsTup.new _ _⟩

/-! ### data: None, truths, whole numbers, texts, lists, tuples, dicts with text keys -/
def kD : Key → PyData
  | .inl i => .int i
  | .inr x => .str x
mutual
inductive Dd (H : Hp) : V → PyData → Prop
  | non : Dd H .non .none
  | bl (b : Bool) : Dd H (.bl b) (.bool b)
  | int (i : Int) : Dd H (.int i) (.int i)
  | str (x : Str) : Dd H (.str x) (.str x)
  | lst {a : Addr} {xs : List V} {ds : List PyData} : H a = some (.lst xs) → DdAll H xs ds → Dd H (.ref a) (.list ds)
  | tup {a : Addr} {xs : List V} {ds : List PyData} : H a = some (.tup xs) → DdAll H xs ds → Dd H (.ref a) (.tuple ds)
  | dic {a : Addr} {kvs : List (Key × V)} {ds : List PyData} : H a = some (.dK kvs) → DdAll H (kvs.map (·.2)) ds →
      Dd H (.ref a) (.dict ((kvs.map fun p => kD p.1).zip ds))
inductive DdAll (H : Hp) : List V → List PyData → Prop
  | nil : DdAll H [] []
  | cons {v : V} {vs : List V} {d : PyData} {ds : List PyData} : Dd H v d → DdAll H vs ds → DdAll H (v :: vs) (d :: ds)
end
theorem DdAll.length {H : Hp} : ∀ {vs : List V} {ds : List PyData}, DdAll H vs ds → ds.length = vs.length
  | [], _, h => by cases h; rfl
  | v :: vs, _, h => by
    cases h with
    | cons _ t => rw [List.length_cons, List.length_cons, t.length]

mutual
theorem Dd.same {H H' : Hp} (s : Same H H') : ∀ {v : V} {d : PyData}, Dd H v d → Dd H' v d
  | _, _, .non => .non
  | _, _, .bl b => .bl b
  | _, _, .int i => .int i
  | _, _, .str x => .str x
  | _, _, .lst e r => .lst (s _ _ e) (DdAll.same s r)
  | _, _, .tup e r => .tup (s _ _ e) (DdAll.same s r)
  | _, _, .dic e r => .dic (s _ _ e) (DdAll.same s r)
theorem DdAll.same {H H' : Hp} (s : Same H H') : ∀ {vs : List V} {ds : List PyData}, DdAll H vs ds → DdAll H' vs ds
  | _, _, .nil => .nil
  | _, _, .cons a b => .cons (Dd.same s a) (DdAll.same s b)
end

section
variable {X : Cx} {pins : List (Addr × Obj)} {σ : L2.St} {H : Hp} {s : Shared}
theorem key_read {P : Program} {w : World} {h : Heap} {k : Key} {v : Value} (e : (mixKind P w).is k v = true) : Reads h v (kD k) [] := by
  rcases keyIs_shape (show keyIs k v = true from e) with ⟨i, t, rfl, rfl⟩ | ⟨x, t, rfl, rfl⟩
  · exact .int i t
  · exact .str x t
theorem pairs_read {P : Program} {w : World} {h : Heap} : ∀ {es : List DictEntry} {vs : List (Key × Value)} {kvs : List (Key × V)},
    Pairs (mixKind P w) es vs → KV kvs vs →
    ReadsAll h (es.map (·.key)) (kvs.map fun p => kD p.1) [] ∧ es.map (·.val) = vs.map (·.2) ∧ Vals (kvs.map (·.2)) (vs.map (·.2))
  | _, _, _, .nil, .nil => ⟨.nil, rfl, .nil⟩
  | _, _, _, .cons h1 h2 t, .cons r rt => by
    obtain ⟨a, b, c⟩ := pairs_read (h := h) t rt
    refine ⟨?_, ?_, .cons r.2 c⟩
    · rw [← r.1] at h1
      exact ReadsAll.cons (key_read h1) a
    · rw [List.map_cons, List.map_cons, b, h2]
theorem zip_fst {α β : Type} {xs : List α} {ys : List β} (h : xs.length = ys.length) : (xs.zip ys).map (·.1) = xs := by
  rw [show (fun x : α × β => x.1) = Prod.fst from rfl]
  exact List.map_fst_zip (Nat.le_of_eq h)
theorem zip_snd {α β : Type} {xs : List α} {ys : List β} (h : xs.length = ys.length) : (xs.zip ys).map (·.2) = ys := by
  rw [show (fun x : α × β => x.2) = Prod.snd from rfl]
  exact List.map_snd_zip (Nat.le_of_eq h.symm)
theorem not_sys {a : Addr} {o : Obj} {vs : Array Value} {n : Nat} (sys : SysD X.base) (I : L2.Inv X pins σ H s) (h : s.heap.get? a = some o) (hc : o.data = .seq vs n) : sysModules ≠ a := by
  rintro rfl
  obtain ⟨mm, u, es, ep, hu, du, _⟩ := sys
  have := I.bk _ _ hu
  rw [h] at this
  cases this
  rw [hc] at du
  cases du
mutual
theorem Dd.reads (sys : SysD X.base) (I : Inv X pins σ H s) : ∀ {v : V} {d : PyData}, Dd H v d → ∀ {u : Value}, RelV v u → ∃ as, Reads s.heap u d as ∧ sysModules ∉ as
  | _, _, .non, _, r => by cases r; exact ⟨_, .none, List.not_mem_nil⟩
  | _, _, .bl b, _, r => by cases r; exact ⟨_, .bool b, List.not_mem_nil⟩
  | _, _, .int i, _, r => by obtain ⟨t, rfl⟩ := r; exact ⟨_, .int i t, List.not_mem_nil⟩
  | _, _, .str x, _, r => by obtain ⟨t, rfl⟩ := r; exact ⟨_, .str x t, List.not_mem_nil⟩
  | _, _, .lst e h, _, r => by
    cases r
    obtain ⟨_, its, n, rv, ho⟩ := I.hok _ _ e
    obtain ⟨as, q, ns⟩ := DdAll.reads sys I h rv
    refine ⟨_, Reads.list ho rfl rfl q, ?_⟩
    intro z
    rcases List.mem_cons.mp z with z | z
    · exact not_sys sys I ho rfl z
    · exact ns z
  | _, _, .tup e h, _, r => by
    cases r
    obtain ⟨_, its, rv, o, ho, hc, n, hd⟩ := I.hok _ _ e
    obtain ⟨as, q, ns⟩ := DdAll.reads sys I h rv
    exact ⟨_, Reads.tuple ho hc hd q, ns⟩
  | _, _, .dic (kvs := kvs) (ds := ds) e h, _, r => by
    cases r
    obtain ⟨_, hne, vs, kv, o, es, ep, ho, hx, hd, _, hp, _⟩ := I.hok _ _ e
    obtain ⟨rk, hv, rvs⟩ := pairs_read (h := s.heap) hp kv
    obtain ⟨bs, q, ns⟩ := DdAll.reads sys I h rvs
    have hl : (kvs.map fun p => kD p.1).length = ds.length := by
      rw [h.length, List.length_map, List.length_map]
    refine ⟨_, Reads.dict (as := []) (bs := bs) ho hx.1 hd ?_ ?_, ?_⟩
    · rw [zip_fst hl]; exact rk
    · rw [zip_snd hl, hv]; exact q
    · intro z
      rcases List.mem_cons.mp (show sysModules ∈ _ :: bs from z) with z | z
      · rw [z] at hne
        simp at hne
      · exact ns z
theorem DdAll.reads (sys : SysD X.base) (I : Inv X pins σ H s) : ∀ {vs : List V} {ds : List PyData}, DdAll H vs ds → ∀ {us : List Value}, Vals vs us → ∃ as, ReadsAll s.heap us ds as ∧ sysModules ∉ as
  | _, _, .nil, _, r => by cases r; exact ⟨_, .nil, List.not_mem_nil⟩
  | _, _, .cons a b, _, r => by
    cases r with
    | cons r1 r2 =>
      obtain ⟨as, q1, n1⟩ := Dd.reads sys I a r1
      obtain ⟨bs, q2, n2⟩ := DdAll.reads sys I b r2
      refine ⟨_, .cons q1 q2, ?_⟩
      intro z
      rcases List.mem_append.mp z with z | z
      · exact n1 z
      · exact n2 z
end
/-- repr(x) -/
theorem call_repr (gd : X.A.guards = some []) (hu : X.A.units + 100 < cLine) (sys : SysD X.base) :
    CallR X (.builtin "repr") (fun xs H Q => ∃ x d, xs = [x] ∧ Dd H x d ∧ d.showable = true ∧ d.depth ≤ 60 ∧ d.shown.length ≤ sizeLine ∧ Q (.str d.shown) H) := by
  rintro pins s σ H xs us Q I r ⟨x, d, rfl, hd, hs, hdep, hz, q⟩
  obtain ⟨u, rfl, r1⟩ := vals1 r
  have fin : ∀ h' v tk, (∀ b o, s.heap.get? b = some o → h'.get? b = some o) →
      EP X pins σ Q (.str d.shown v) { s with heap := h', toks := tk } := fun h' v tk hk => ⟨.str d.shown, H, I.kept hk, ⟨v, rfl⟩, q⟩
  obtain ⟨as, rd, ns⟩ := Dd.reads sys I hd r1
  cases rd with
  | none => exact PySem.P.repr_of_none (fin s.heap s.toks (s.toks + 1) fun _ _ e => e)
  | bool b => exact PySem.P.repr_of_bool (fin s.heap s.toks (s.toks + 1) fun _ _ e => e)
  | int i t => exact PySem.P.repr_of_int (of_decide_eq_true hs) (fin s.heap s.toks (s.toks + 1) fun _ _ e => e)
  | str z t => exact PySem.P.repr_of_str (fin s.heap s.toks (s.toks + 1) fun _ _ e => e) hz
  | list h1 h2 h3 h4 => exact repr_of_reads' (.list h1 h2 h3 h4) hs (fun _ => ns) gd (by omega) (fun _ _ e => e) fin hz
  | tuple h1 h2 h3 h4 => exact repr_of_reads' (.tuple h1 h2 h3 h4) hs (fun _ => ns) gd (by omega) (fun _ _ e => e) fin hz
  | dict h1 h2 h3 h4 h5 => exact repr_of_reads' (.dict h1 h2 h3 h4 h5) hs (fun _ => ns) gd (by omega) (fun _ _ e => e) fin hz
end
end MG

namespace MG
open PySem PySem.Spec PyProof.Rows L2

/-- v is data in H: at most n deep, its repr at most c signs -/
def Da (H : Hp) (n c : Nat) (v : V) : Prop := ∃ d, Dd H v d ∧ d.showable = true ∧ d.depth ≤ n ∧ d.shown.length ≤ c
theorem Da.same {H H' : Hp} {n c : Nat} {v : V} (s : Same H H') (h : Da H n c v) : Da H' n c v := by
  obtain ⟨d, a, b⟩ := h
  exact ⟨d, a.same s, b⟩
theorem Da.le {H : Hp} {n c n' c' : Nat} {v : V} (h : Da H n c v) (hn : n ≤ n') (hc : c ≤ c') : Da H n' c' v := by
  obtain ⟨d, a, b, e, f⟩ := h
  exact ⟨d, a, b, Nat.le_trans e hn, Nat.le_trans f hc⟩
theorem Da.non {H : Hp} : Da H 0 4 .non := ⟨.none, .non, rfl, Nat.le_refl _, by decide +kernel⟩
theorem Da.bl {H : Hp} (b : Bool) : Da H 0 5 (.bl b) := ⟨.bool b, .bl b, rfl, Nat.le_refl _, by cases b <;> decide +kernel⟩
theorem int_len {i : Int} {k : Nat} (hk : 0 < k) (h : i.natAbs < 2 ^ k) : (Str.ofString (toString i)).length ≤ k + 1 := by
  rw [PySem.ofString_length]
  refine int_text_length_le hk ?_
  by_cases h0 : i.natAbs = 0
  · rw [h0]; exact Nat.lt_of_le_of_lt (by decide) hk
  · exact (Nat.log2_lt h0).mpr h
theorem Da.int {H : Hp} {i : Int} (h : i.natAbs < 2 ^ 300) : Da H 0 301 (.int i) := by
  refine ⟨.int i, .int i, ?_, Nat.le_refl _, int_len (by decide) h⟩
  show decide (i.natAbs.log2 < 1920) = true
  refine decide_eq_true ?_
  by_cases h0 : i.natAbs = 0
  · rw [h0]; decide
  · exact Nat.lt_of_lt_of_le ((Nat.log2_lt h0).mpr h) (by decide)
theorem Da.str {H : Hp} (x : Str) {c : Nat} (h : (reprText x).length ≤ c) : Da H 0 c (.str x) := ⟨.str x, .str x, rfl, Nat.le_refl _, h⟩

theorem das {H : Hp} {n c : Nat} : ∀ {xs : List V}, (∀ x ∈ xs, Da H n c x) →
    ∃ ds, DdAll H xs ds ∧ PyData.showableAll ds = true ∧ PyData.depthAll ds ≤ n ∧ piled (PyData.shownAll ds) ≤ xs.length * (c + 2)
  | [], _ => ⟨[], .nil, rfl, Nat.zero_le _, by rw [PyData.shownAll, piled_nil]; exact Nat.zero_le _⟩
  | x :: xs, h => by
    obtain ⟨d, a, b, e, f⟩ := h x List.mem_cons_self
    obtain ⟨ds, a2, b2, e2, f2⟩ := das (xs := xs) fun y hy => h y (List.mem_cons_of_mem _ hy)
    refine ⟨d :: ds, .cons a a2, ?_, ?_, ?_⟩
    · rw [PyData.showableAll, b, b2]; rfl
    · rw [PyData.depthAll]; exact Nat.max_le.mpr ⟨e, e2⟩
    · rw [PyData.shownAll, piled_cons, List.length_cons, Nat.add_mul, Nat.one_mul]
      omega
theorem tupleText_le (ts : List Str) : (tupleText ts).length ≤ piled ts + 3 := by
  unfold tupleText
  rw [strLen_append, strLen_append]
  have h1 : ("(" : Str).length = 1 := rfl
  have h2 : (Str.ofString (if (ts.length == 1) = true then ",)" else ")")).length ≤ 2 := by
    cases ts.length == 1 <;> decide +kernel
  have h3 : (Str.join ", " ts).length ≤ piled ts := by
    cases ts with
    | nil => decide +kernel
    | cons t r =>
      have := join_length_add (t :: r) (List.cons_ne_nil _ _)
      omega
  have h4 : ((if (ts.length == 1) = true then ",)" else ")" : String) : Str).length ≤ 2 := h2
  omega
theorem dictText_le (ts : List Str) : (dictText ts).length ≤ piled ts + 3 := by
  unfold dictText
  rw [strLen_append, strLen_append]
  have h1 : ("{" : Str).length = 1 := rfl
  have h2 : ("}" : Str).length = 1 := rfl
  have h3 : (Str.join ", " ts).length ≤ piled ts := by
    cases ts with
    | nil => decide +kernel
    | cons t r =>
      have := join_length_add (t :: r) (List.cons_ne_nil _ _)
      omega
  omega
theorem listText_le (ts : List Str) : (listText ts).length ≤ piled ts + 3 := by
  unfold listText
  rw [strLen_append]
  have h2 : ("]" : Str).length = 1 := rfl
  cases ts with
  | nil => decide +kernel
  | cons t r =>
    have e : (textFrom 0 "[" (t :: r)) = textFrom 1 (("[" : Str) ++ (if (0 : Nat) > 0 then ", " else "" : String) ++ t) r := rfl
    rw [e, textFrom_length_pos _ _ _ Nat.one_pos, strLen_append, strLen_append, piled_cons]
    have h1 : ("[" : Str).length = 1 := rfl
    have h3 : ((if (0 : Nat) > 0 then ", " else "" : String) : Str).length = 0 := by decide +kernel
    omega
theorem Da.tup {H : Hp} {n c m : Nat} {a : Addr} {xs : List V} (e : H a = some (.tup xs)) (h : ∀ x ∈ xs, Da H n c x) (hm : xs.length ≤ m) :
    Da H (n + 1) (m * (c + 2) + 3) (.ref a) := by
  obtain ⟨ds, a1, b1, e1, f1⟩ := das h
  refine ⟨.tuple ds, .tup e a1, b1, Nat.succ_le_succ e1, ?_⟩
  have h1 := tupleText_le (PyData.shownAll ds)
  have h2 : xs.length * (c + 2) ≤ m * (c + 2) := Nat.mul_le_mul_right _ hm
  show (tupleText (PyData.shownAll ds)).length ≤ _
  omega
theorem Da.lst {H : Hp} {n c m : Nat} {a : Addr} {xs : List V} (e : H a = some (.lst xs)) (h : ∀ x ∈ xs, Da H n c x) (hm : xs.length ≤ m) :
    Da H (n + 1) (m * (c + 2) + 3) (.ref a) := by
  obtain ⟨ds, a1, b1, e1, f1⟩ := das h
  refine ⟨.list ds, .lst e a1, b1, Nat.succ_le_succ e1, ?_⟩
  have h1 := listText_le (PyData.shownAll ds)
  have h2 : xs.length * (c + 2) ≤ m * (c + 2) := Nat.mul_le_mul_right _ hm
  show (listText (PyData.shownAll ds)).length ≤ _
  omega
theorem Da.dic0 {H : Hp} {a : Addr} (e : H a = some (.dK [])) : Da H 1 3 (.ref a) :=
  ⟨.dict [], .dic e .nil, rfl, by decide, by decide +kernel⟩
theorem Da.dic1 {H : Hp} {n c : Nat} {a : Addr} {k : Str} {v : V} (e : H a = some (.dK [(.inr k, v)])) (h : Da H n c v) (hk : (reprText k).length ≤ 5) :
    Da H (n + 1) (c + 12) (.ref a) := by
  obtain ⟨d, a1, b1, e1, f1⟩ := h
  refine ⟨.dict [(.str k, d)], .dic e (.cons a1 .nil), ?_, ?_, ?_⟩
  · show (true && d.showable && true) = true
    rw [b1]; rfl
  · show max (max 0 d.depth) 0 + 1 ≤ n + 1
    omega
  · have h1 := dictText_le (PyData.shownKv [(.str k, d)])
    have h2 : PyData.shownKv [(.str k, d)] = [reprText k ++ ": " ++ d.shown] := rfl
    rw [h2] at h1
    show (dictText (PyData.shownKv [(.str k, d)])).length ≤ _
    rw [h2]
    have h3 : (reprText k ++ ": " ++ d.shown).length = (reprText k).length + 2 + d.shown.length := by
      rw [strLen_append, strLen_append]; rfl
    rw [piled_cons, piled_nil, h3] at h1
    omega
end MG

namespace MG
open PySem PySem.Spec PyProof.Rows L2

/-! ### f(a=.., b=..): every parameter by its name, in the def's order -/
def KB (K : PySem.W.Frag) (fd : FuncData) (ps : List Str) : Prop :=
  ∀ (s : Shared) (us : List Value), K.In s.heap → us.length = ps.length → BindsTo s fd ⟨[], ps.zip us⟩ (ps.zip us)
theorem kb_of {K : PySem.W.Frag} {x qual : Str} {st : Stmt} {f : Addr} {fd : FuncData} {ps : List Str} (F : Fun K x qual st f fd)
    (h : ∀ (kV doc pm : Value) (an : Option Addr) (cdv ct : Value) (us : List Value), us.length = ps.length →
      bindArgs (PySem.W.fnOf x qual (defArgs st) (defBody st) (defScope st) .none kV doc pm an cdv ct) ⟨[], ps.zip us⟩ = pure (ps.zip us)) : KB K fd ps := by
  obtain ⟨oc, od, kV, doc, pm, an, cdv, ct, osl, rfl, lk, hcd⟩ := F.ex
  exact fun s us _ hl => .of_eq (h kV doc pm an cdv ct us hl)
def tCallN (sp : Sp) (E : XK) (tk : TA) : TE := fun σ H Q => tk σ H fun zs H2 => sp zs H2 Q E
theorem pe_callN {X : Cx} {k : Nat} {f : Addr} {fd : FuncData} {ps : List Str} {sp : Sp} {E : XK} {x : Str} {p pos : Pos} {kws : List Keyword} {tk : TA}
    (F : FnOk X.prog X.w X.K X.mg X.base CX0 k f fd ps sp) (hr : Room k X.A) (hg : Gl X x)
    (hm : X.mg x = some (.ref f)) (hk : PySem.W.keepIn X.K (.ref f) = true) (hb : KB X.K fd ps) (hkw : PK X kws tk)
    (hall : (backToKw pos (keywordEach kws X.env)).all (·.1.isSome) = true := by rfl)
    (hks : (backToKw pos (keywordEach kws X.env)).filterMap (·.1) = ps := by rfl)
    (hdb : (x == ("__debug__" : Str)) = false := by decide)
    (hpl : ((backTo pos (starEach [] X.env)).any (·.1) || (backToKw pos (keywordEach kws X.env)).any (·.1.isNone)) = false := by rfl) :
    PE X (.Call (.Name x p) [] kws pos) (tCallN sp E tk) := by
  constructor
  intro pins s σ H Q I h
  refine wpAny_Call_Name_kw (ld_glob I hg hm ?_ hdb)
  refine PySem.W.callWith_KW0 (h₀ := X.base) I.ok.mod.kin hk hall (thn (hkw.run pos pins s σ H _ I h) ?_) hpl
  rintro us s1 ⟨vs, H1, I1, r, q⟩
  refine ⟨I1.kIn, ?_⟩
  rw [hks]
  have hl : us.length = ps.length := by
    rw [← r.length]
    exact F.len _ _ _ _ q
  refine wpAny_call (codeAny_mono (F.run X.A X.stack s1 H1 ⟨[], ps.zip us⟩ us vs Q E hr I1.env0 (hb s1 us I1.kIn hl) r q) ?_)
  intro res s' hq
  cases res with
  | error e => exact False.elim hq
  | ok fl =>
    cases fl with
    | ret u => exact I1.after hq
    | next => exact False.elim hq
    | brk => exact False.elim hq
    | cont => exact False.elim hq

/-! ### isinstance of data -/
def tyN : PyData → String
  | .none => "NoneType"
  | .bool _ => "bool"
  | .int _ => "int"
  | .str _ => "str"
  | .list _ => "list"
  | .tuple _ => "tuple"
  | .dict _ => "dict"
theorem Dd.ty {K : PySem.W.Frag} {H : Hp} {v : V} {d : PyData} (h : Dd H v d) : TyX K H v (.type (tyN d)) := by
  cases h with
  | non => exact .base .non
  | bl b => exact .base (.bl b)
  | int i => exact .base (.int i)
  | str x => exact .base (.str x)
  | lst e _ => exact .base (.lst e)
  | tup e _ => exact .base (.tup e)
  | dic e _ => exact .base (.dK e)
def isIntD : PyData → Bool
  | .int _ | .bool _ => true
  | _ => false
def isBoolD : PyData → Bool
  | .bool _ => true
  | _ => false
def isTupD : PyData → Bool
  | .tuple _ => true
  | _ => false
theorem kit_int (K : PySem.W.Frag) (d : PyData) : PySem.W.kitOne K (.type (tyN d)) (.type "int") = some (isIntD d) := by
  cases d with
  | none => exact kit_ty (a := "NoneType") (b := "int") (r := false) (by decide +kernel)
  | bool _ => exact kit_ty (a := "bool") (b := "int") (r := true) (by decide +kernel)
  | int _ => exact kit_ty (a := "int") (b := "int") (r := true) (by decide +kernel)
  | str _ => exact kit_ty (a := "str") (b := "int") (r := false) (by decide +kernel)
  | list _ => exact kit_ty (a := "list") (b := "int") (r := false) (by decide +kernel)
  | tuple _ => exact kit_ty (a := "tuple") (b := "int") (r := false) (by decide +kernel)
  | dict _ => exact kit_ty (a := "dict") (b := "int") (r := false) (by decide +kernel)
theorem kit_bool (K : PySem.W.Frag) (d : PyData) : PySem.W.kitOne K (.type (tyN d)) (.type "bool") = some (isBoolD d) := by
  cases d with
  | none => exact kit_ty (a := "NoneType") (b := "bool") (r := false) (by decide +kernel)
  | bool _ => exact kit_ty (a := "bool") (b := "bool") (r := true) (by decide +kernel)
  | int _ => exact kit_ty (a := "int") (b := "bool") (r := false) (by decide +kernel)
  | str _ => exact kit_ty (a := "str") (b := "bool") (r := false) (by decide +kernel)
  | list _ => exact kit_ty (a := "list") (b := "bool") (r := false) (by decide +kernel)
  | tuple _ => exact kit_ty (a := "tuple") (b := "bool") (r := false) (by decide +kernel)
  | dict _ => exact kit_ty (a := "dict") (b := "bool") (r := false) (by decide +kernel)
theorem kit_tuple (K : PySem.W.Frag) (d : PyData) : PySem.W.kitOne K (.type (tyN d)) (.type "tuple") = some (isTupD d) := by
  cases d with
  | none => exact kit_ty (a := "NoneType") (b := "tuple") (r := false) (by decide +kernel)
  | bool _ => exact kit_ty (a := "bool") (b := "tuple") (r := false) (by decide +kernel)
  | int _ => exact kit_ty (a := "int") (b := "tuple") (r := false) (by decide +kernel)
  | str _ => exact kit_ty (a := "str") (b := "tuple") (r := false) (by decide +kernel)
  | list _ => exact kit_ty (a := "list") (b := "tuple") (r := false) (by decide +kernel)
  | tuple _ => exact kit_ty (a := "tuple") (b := "tuple") (r := true) (by decide +kernel)
  | dict _ => exact kit_ty (a := "dict") (b := "tuple") (r := false) (by decide +kernel)
end MG

/-! MG: twos, greatest common parts -/
namespace MG
open PySem

/-- how often 2 parts n (0 of 0) -/
def v2 (n : Nat) : Nat := if h : n = 0 then 0 else if n % 2 = 1 then 0 else v2 (n / 2) + 1
termination_by n
decreasing_by omega
theorem v2_odd {n : Nat} (h : n % 2 = 1) : v2 n = 0 := by
  rw [v2]
  simp [h]
theorem v2_even {n : Nat} (h0 : n ≠ 0) (h : n % 2 = 0) : v2 n = v2 (n / 2) + 1 := by
  rw [v2]
  rw [dif_neg h0, if_neg (by omega)]
theorem v2_mul2 {n : Nat} (h0 : n ≠ 0) : v2 (2 * n) = v2 n + 1 := by
  rw [v2_even (by omega) (by omega), show 2 * n / 2 = n by omega]
/-- n & (n - 1) takes the last one away -/
theorem land_pred : ∀ n : Nat, 0 < n → (n &&& (n - 1)) + 2 ^ v2 n = n := by
  intro n
  induction n using Nat.strongRecOn with
  | ind n ih =>
    intro hn
    have hd : (n &&& (n - 1)) / 2 = n / 2 &&& (n - 1) / 2 := Nat.and_div_two ..
    have hm := Nat.and_mod_two_eq_one (a := n) (b := n - 1)
    have hsplit := Nat.div_add_mod (n &&& (n - 1)) 2
    rcases Nat.mod_two_eq_zero_or_one n with h | h
    · have h2 : (n - 1) / 2 = n / 2 - 1 := by omega
      have hq : 0 < n / 2 := by omega
      have := ih (n / 2) (by omega) hq
      rw [h2] at hd
      have hz : (n &&& (n - 1)) % 2 = 0 := by
        rcases Nat.mod_two_eq_zero_or_one (n &&& (n - 1)) with z | z
        · exact z
        · have := (hm.mp z).1
          omega
      rw [v2_even (by omega) h, Nat.pow_succ]
      omega
    · have h2 : (n - 1) / 2 = n / 2 := by omega
      rw [h2, Nat.and_self] at hd
      have hz : (n &&& (n - 1)) % 2 = 0 := by
        rcases Nat.mod_two_eq_zero_or_one (n &&& (n - 1)) with z | z
        · exact z
        · have := (hm.mp z).2
          omega
      rw [v2_odd h]
      show _ + 1 = n
      omega
theorem low_bit {n : Int} (h : 0 < n) : Builtin.bitAnd n (-n) = 2 ^ v2 n.toNat := by
  have e : Builtin.bitNot (-n) = n - 1 := by
    show -(-n) - 1 = n - 1
    omega
  rw [PyProof.Rows.bitAnd_pn (by omega) (by omega), e]
  have h1 := land_pred n.toNat (by omega)
  have h2 : (n - 1).toNat = n.toNat - 1 := by omega
  rw [h2]
  have h3 : ((n.toNat &&& (n.toNat - 1) : Nat) : Int) + ((2 ^ v2 n.toNat : Nat) : Int) = n := by
    rw [← Int.natCast_add, h1]
    omega
  rw [show ((2 ^ v2 n.toNat : Nat) : Int) = 2 ^ v2 n.toNat from by rw [Int.natCast_pow]; rfl] at h3
  omega
theorem bits_pow (k : Nat) : (Builtin.Int.intBits ((2 : Int) ^ k) : Nat) = k + 1 := by
  unfold Builtin.Int.intBits
  have h0 : ((2 : Int) ^ k == 0) = false := by
    refine beq_eq_false_iff_ne.mpr ?_
    have : (0 : Int) < 2 ^ k := Int.pow_pos (by decide)
    omega
  rw [h0]
  have h1 : ((2 : Int) ^ k).natAbs = 2 ^ k := by
    rw [Int.natAbs_pow]
    rfl
  rw [if_neg Bool.false_ne_true, h1, Nat.log2_two_pow]
theorem pow_v2_dvd : ∀ n : Nat, 2 ^ v2 n ∣ n := by
  intro n
  induction n using Nat.strongRecOn with
  | ind n ih =>
    by_cases h0 : n = 0
    · subst h0; exact Nat.dvd_zero _
    · rcases Nat.mod_two_eq_zero_or_one n with h | h
      · rw [v2_even h0 h, Nat.pow_succ]
        have h1 := ih (n / 2) (by omega)
        have h2 : n = n / 2 * 2 := by omega
        rw [h2]
        exact Nat.mul_dvd_mul_right (by rw [show n / 2 * 2 / 2 = n / 2 by omega]; exact h1) 2
      · rw [v2_odd h]; exact Nat.one_dvd _
theorem v2_unique {n k m : Nat} (h : n = 2 ^ k * m) (hm : m % 2 = 1) : v2 n = k := by
  induction k generalizing n with
  | zero =>
    rw [Nat.pow_zero, Nat.one_mul] at h
    rw [h]; exact v2_odd hm
  | succ k ih =>
    have h0 : 2 ^ k * m ≠ 0 := by
      intro z
      rcases Nat.mul_eq_zero.mp z with z | z
      · exact absurd z (Nat.pos_iff_ne_zero.mp (Nat.two_pow_pos k))
      · omega
    rw [h, Nat.pow_succ, Nat.mul_comm (2 ^ k) 2, Nat.mul_assoc, v2_mul2 h0, ih rfl]
theorem odd_rest {n : Nat} (h : 0 < n) : n / 2 ^ v2 n % 2 = 1 := by
  induction n using Nat.strongRecOn with
  | ind n ih =>
    rcases Nat.mod_two_eq_zero_or_one n with z | z
    · rw [v2_even (by omega) z, Nat.pow_succ, Nat.mul_comm, ← Nat.div_div_eq_div_mul]
      exact ih (n / 2) (by omega) (by omega)
    · rw [v2_odd z, Nat.pow_zero, Nat.div_one]; exact z
theorem v2_split {n : Nat} (h : 0 < n) : n = 2 ^ v2 n * (n / 2 ^ v2 n) := (Nat.mul_div_cancel' (pow_v2_dvd n)).symm
theorem pow_dvd_iff {n k : Nat} (h : 0 < n) : 2 ^ k ∣ n ↔ k ≤ v2 n := by
  constructor
  · intro hd
    refine Nat.le_of_not_lt fun hlt => ?_
    have h1 : 2 ^ (v2 n + 1) ∣ n := Nat.dvd_trans (Nat.pow_dvd_pow 2 hlt) hd
    obtain ⟨c, hc⟩ := h1
    have h2 := odd_rest h
    have h3 : n / 2 ^ v2 n = 2 * c := by
      rw [hc]
      rw [← hc]
      have : n = 2 ^ v2 n * (2 * c) := by rw [← Nat.mul_assoc, ← Nat.pow_succ]; exact hc
      exact Nat.div_eq_of_eq_mul_right (Nat.two_pow_pos _) this
    omega
  · intro hk
    exact Nat.dvd_trans (Nat.pow_dvd_pow 2 hk) (pow_v2_dvd n)

/-- the greatest number that parts all -/
def gl : List Int → Nat
  | [] => 0
  | n :: r => Nat.gcd n.toNat (gl r)
theorem gl_append : ∀ (a b : List Int), gl (a ++ b) = Nat.gcd (gl a) (gl b)
  | [], b => by rw [List.nil_append, gl, Nat.gcd_zero_left]
  | n :: r, b => by rw [List.cons_append, gl, gl_append r b, gl, Nat.gcd_assoc]
theorem gl_perm {a b : List Int} (h : a.Perm b) : gl a = gl b := by
  induction h with
  | nil => rfl
  | cons x _ ih => rw [gl, gl, ih]
  | swap x y l => rw [gl, gl, gl, gl, ← Nat.gcd_assoc, ← Nat.gcd_assoc, Nat.gcd_comm y.toNat x.toNat]
  | trans _ _ ih1 ih2 => rw [ih1, ih2]
theorem gl_zeros : ∀ k : Nat, gl (List.replicate k 0) = 0
  | 0 => rfl
  | k + 1 => by rw [List.replicate_succ, gl, gl_zeros k]; rfl
theorem gl_dvd : ∀ {l : List Int} {n : Int}, n ∈ l → gl l ∣ n.toNat
  | m :: r, n, h => by
    rcases List.mem_cons.mp h with rfl | h
    · exact Nat.gcd_dvd_left _ _
    · exact Nat.dvd_trans (Nat.gcd_dvd_right _ _) (gl_dvd h)
theorem gl_pos : ∀ {l : List Int} {n : Int}, n ∈ l → 0 < n → 0 < gl l := fun {l n} h hn =>
  Nat.pos_of_ne_zero fun z => by
    have := gl_dvd h
    rw [z] at this
    have := Nat.eq_zero_of_zero_dvd this
    omega
theorem gl_le {l : List Int} {n : Int} (h : n ∈ l) (hn : 0 < n) : (gl l : Int) ≤ n := by
  have := Nat.le_of_dvd (by omega) (gl_dvd h)
  omega
theorem gl_mul (c : Int) (hc : 0 ≤ c) : ∀ {l : List Int}, (∀ n ∈ l, 0 ≤ n) → gl (l.map fun n => c * n) = c.toNat * gl l
  | [], _ => rfl
  | n :: r, h => by
    rw [List.map_cons, gl, gl, gl_mul c hc fun m hm => h m (List.mem_cons_of_mem _ hm), ← Nat.gcd_mul_left, Int.toNat_mul hc (h n List.mem_cons_self)]
theorem gl_filter : ∀ l : List Int, gl (l.filter fun n => decide (n > 0)) = gl l
  | [] => rfl
  | n :: r => by
    by_cases h : n > 0
    · rw [List.filter_cons_of_pos (by simpa using h), gl, gl, gl_filter r]
    · rw [List.filter_cons_of_neg (by simpa using h), gl_filter r, gl, show n.toNat = 0 by omega, Nat.gcd_zero_left]
/-- how many are parted by 2 no oftener than t -/
def fewT (t : Nat) (l : List Int) : List Int := l.filter fun n => decide (n > 0) && decide (v2 n.toNat ≤ t)
theorem fewT_perm {t : Nat} {a b : List Int} (h : a.Perm b) : (fewT t a).length = (fewT t b).length := (h.filter _).length_eq
theorem fewT_zeros (t k : Nat) : fewT t (List.replicate k 0) = [] := by
  unfold fewT
  refine List.filter_eq_nil_iff.mpr fun n hn => ?_
  rw [List.eq_of_mem_replicate hn]
  simp
end MG

namespace K03
open PySem PySem.Spec PyProof.Rows L2 MG
def topS (i : Nat) : Stmt := PySem.Challenge.pw_matchgift_k03_what_parts_them.main.body.getD i (.Pass ⟨0, 0, 0, 0⟩)
abbrev sBox : Stmt := topS 9
abbrev sTake : Stmt := topS 10
abbrev sOf : Stmt := topS 11
theorem same_upd {H : Hp} {p : Addr} {o : HO} (h : H p = none) : Same H (upd H p o) := fun b x e => by
  rw [upd_ne (ne_of_none e h)]
  exact e
theorem scBox : FnScope ["_law_script", "_law_k", "_law_cell", "_law_own"] ["_law_script", "_law_k"] (defScope sBox) := ⟨rfl, rfl, rfl, by decide +kernel, rfl, by decide +kernel, by decide +kernel⟩
theorem scTake : FnScope ["_law_box_here", "_law_many", "_law_digit", "_law_mixed"] ["_law_box_here", "_law_many"] (defScope sTake) := ⟨rfl, rfl, rfl, by decide +kernel, rfl, by decide +kernel, by decide +kernel⟩
theorem scOf : FnScope ["_law_box_here", "_law_some"] ["_law_box_here", "_law_some"] (defScope sOf) := ⟨rfl, rfl, rfl, by decide +kernel, rfl, by decide +kernel, by decide +kernel⟩

def Box (H : Hp) (b : Addr) (n : Nat) : Prop := ∃ o m c : Int, H b = some (.lst [.int o, .int m, .int c]) ∧ 0 ≤ o ∧ o < 10 ^ 240 ∧ 0 ≤ m ∧ m < 2305843009213693921 ∧ 0 ≤ c ∧ c ≤ n
theorem Box.le {H : Hp} {b : Addr} {n n' : Nat} (h : Box H b n) (hn : n ≤ n') : Box H b n' := by
  obtain ⟨o, m, c, e, h1, h2, h3, h4, h5, h6⟩ := h
  exact ⟨o, m, c, e, h1, h2, h3, h4, h5, by omega⟩

theorem bit (b : Bool) : (-(2 ^ 64) : Int) < (if b = true then 1 else 0) ∧ (if b = true then (1 : Int) else 0) < 2 ^ 64 := by
  cases b <;> decide
theorem modb (x : Int) : (-(2 ^ 64) : Int) < x % 2305843009213693921 ∧ x % 2305843009213693921 < 2 ^ 64 := by
  have h1 := Int.emod_nonneg x (show (2305843009213693921 : Int) ≠ 0 by decide)
  have h2 := Int.emod_lt_of_pos x (show (0 : Int) < 2305843009213693921 by decide)
  omega
theorem own0 (x : Int) (b : Bool) : 0 ≤ x % 10 ^ 240 * (if b = true then 1 else 0) := by
  have := Int.emod_nonneg x (show (10 : Int) ^ 240 ≠ 0 by decide)
  cases b with
  | false => rw [if_neg Bool.false_ne_true]; omega
  | true => rw [if_pos rfl]; omega
theorem own1 (x : Int) (b : Bool) : x % 10 ^ 240 * (if b = true then 1 else 0) < 10 ^ 240 := by
  have := Int.emod_lt_of_pos x (show (0 : Int) < 10 ^ 240 by decide)
  cases b with
  | false => rw [if_neg Bool.false_ne_true, Int.mul_zero]; decide
  | true => rw [if_pos rfl, Int.mul_one]; exact this
section
variable {P : Program} {w : World} {K : PySem.W.Frag} {mg : Str → Option Value} {base : Heap}
def spBox (K : PySem.W.Frag) : Sp := fun vs H Q _ => ∃ (a : Addr) (ns : List Int) (k : Int), vs = [.ref a, .int k] ∧ SqL K H a (ns.map V.int) ∧ 0 ≤ k ∧ k ≤ 63 ∧
  ∀ p H', H p = none → Same H H' → Box H' p 0 → (∀ a, a ≠ p → H' a = H a) → Q (.ref p) H'
theorem ok_box {f : Addr} {fd : FuncData} {k : Nat} (F : Fun K "_law_box" "_law_box" sBox f fd) (ml : mg "len" = none) (mab : mg "abs" = none) (mI : mg "int" = none) :
    FnOk P w K mg base CX0 (k + 1) f fd ["_law_script", "_law_k"] (spBox K) := by
  refine F.ok scBox (fun vs H Q E h => ?_) (fun cdv A outer s H vs Q E hr h => ?_)
  · obtain ⟨a, ns, k, rfl, _⟩ := h
    rfl
  · obtain ⟨a, ns, k, rfl, hS, k0, k1, q⟩ := h
    refine ⟨_, pss_cons (ps_set (i := 2) scBox.nd rfl (.inl rfl) (pe_ifExp
          (pt_cmpR op_lt (pv 1) (pe_callB call_len_seq (by rfl) ml PySem.boot_len (pa_cons (pv 0) pa_nil)) (nomark _))
          (pe_ix ix_list (pv 0) (pv 1) (fun _ _ => rfl)) pe_int))
      (pss_cons (ps_set (i := 3) scBox.nd rfl (.inl rfl) (pe_op op_mul
          (pe_op op_mod (pe_callB call_abs (by rfl) mab (by decide +kernel) (pa_cons (pv 2) pa_nil))
            (pe_op op_mulW (pe_op op_mulW (pe_op op_mulW (pe_op op_pow pe_int pe_int) (pe_op op_pow pe_int pe_int)) (pe_op op_pow pe_int pe_int)) (pe_op op_pow pe_int pe_int)))
          (pe_callTy call_int1 (by rfl) mI (by decide +kernel) (pa_cons (pe_cmpR op_ge (pe_callB call_abs (by rfl) mab (by decide +kernel) (pa_cons (pv 2) pa_nil)) (pe_op op_pow pe_int pe_int) (nomark _)) pa_nil))))
      (pss_one (ps_ret (pe_lst (pa_cons (pv 3) (pa_cons
          (pe_op op_mod (pe_op op_mul (pe_op op_add (pe_op op_add (pe_op op_mod (pv 2) pe_int) (pe_op op_mul (pe_op op_mul pe_int (pv 1)) (pv 1))) pe_int) pe_int) pe_int)
          (pa_cons pe_int pa_nil))))))), ?_⟩
    have fin : ∀ o : Int, 0 ≤ o → o < 10 ^ 240 → ∀ m : Int, 0 ≤ m → m < 2305843009213693921 → ∀ p, H p = none → Q (.ref p) (upd H p (.lst [.int o, .int m, .int 0])) := by
      intro o o0 o1 m m0 m1 p hp
      refine q p _ hp (same_upd hp) ⟨o, m, 0, upd_same, o0, o1, m0, m1, by omega, by omega⟩ ?_
      intro a ha
      exact upd_ne ha
    have kk : (-(2 ^ 64) : Int) < k ∧ k < 2 ^ 64 := ⟨by omega, by omega⟩
    have w1 : CMulW ((10 : Int) ^ (60 : Int).toNat) (10 ^ (60 : Int).toNat) := by unfold CMulW; decide +kernel
    have w2 : CMulW ((10 : Int) ^ (60 : Int).toNat * 10 ^ (60 : Int).toNat) (10 ^ (60 : Int).toNat) := by unfold CMulW; decide +kernel
    have w3 : CMulW ((10 : Int) ^ (60 : Int).toNat * 10 ^ (60 : Int).toNat * 10 ^ (60 : Int).toNat) (10 ^ (60 : Int).toNat) := by unfold CMulW; decide +kernel
    have cp : CPow 10 60 := ⟨by decide, by decide, by decide⟩
    have cq : CPow 10 18 := ⟨by decide, by decide, by decide⟩
    have pos : (0 : Int) < 10 ^ (60 : Int).toNat * 10 ^ (60 : Int).toNat * 10 ^ (60 : Int).toNat * 10 ^ (60 : Int).toNat := by decide +kernel
    have emod : (10 : Int) ^ (60 : Int).toNat * 10 ^ (60 : Int).toNat * 10 ^ (60 : Int).toNat * 10 ^ (60 : Int).toNat = 10 ^ 240 := by decide +kernel
    refine ⟨_, rfl, .ref a, rfl, a, _, rfl, .inl hS, _, _, rfl, rfl, _, rfl, ite2 (fun hk => ?_) (fun hk => ?_)⟩
    · have hk' := of_decide_eq_true hk
      rw [List.length_map] at hk'
      obtain ⟨j, rfl⟩ : ∃ j : Nat, k = (j : Int) := ⟨k.toNat, by omega⟩
      have hj : j < ns.length := by omega
      refine ⟨.ref a, rfl, _, rfl, a, _, (j : Int), .int ns[j], rfl, rfl, hS, atI_nat (by rw [List.getElem?_map, List.getElem?_eq_getElem hj]; rfl), ?_⟩
      generalize ns[j] = cell
      refine ⟨.int cell, rfl, cell, rfl, 10, 60, rfl, rfl, cp, 10, 60, rfl, rfl, cp, _, _, rfl, rfl, w1, 10, 60, rfl, rfl, cp, _, _, rfl, rfl, w2, 10, 60, rfl, rfl, cp, _, _, rfl, rfl, w3, _, _, rfl, rfl, pos, ?_⟩
      refine ⟨.int cell, rfl, cell, rfl, 10, 18, rfl, rfl, cq, _, _, rfl, rfl, .inr ⟨_, rfl, _, _, rfl, rfl, .inr (bit _), ?_⟩⟩
      refine ⟨_, rfl, _, rfl, cell, 2305843009213693951, rfl, rfl, (by show (0 : Int) < 2305843009213693951; decide), _, rfl, 7919, (j : Int), rfl, rfl, .inl ⟨by decide, by decide⟩, _, rfl, _, (j : Int), rfl, rfl, .inr kk, _, _, rfl, rfl, _, 43, rfl, rfl, _, 48271, rfl, rfl, .inr ⟨by decide, by decide⟩, _, _, rfl, rfl, (by show (0 : Int) < 2305843009213693921; decide), ?_⟩
      refine ⟨by show 3 ≤ sizeLine; decide, ?_⟩
      rw [emod]
      exact fin _ (own0 _ _) (own1 _ _) _ (Int.emod_nonneg _ (by decide)) (Int.emod_lt_of_pos _ (by decide))
    · skip
      refine ⟨.int 0, rfl, 0, rfl, 10, 60, rfl, rfl, cp, 10, 60, rfl, rfl, cp, _, _, rfl, rfl, w1, 10, 60, rfl, rfl, cp, _, _, rfl, rfl, w2, 10, 60, rfl, rfl, cp, _, _, rfl, rfl, w3, _, _, rfl, rfl, pos, ?_⟩
      refine ⟨.int 0, rfl, 0, rfl, 10, 18, rfl, rfl, cq, _, _, rfl, rfl, .inr ⟨_, rfl, _, _, rfl, rfl, .inr (bit _), ?_⟩⟩
      refine ⟨_, rfl, _, rfl, 0, 2305843009213693951, rfl, rfl, (by show (0 : Int) < 2305843009213693951; decide), _, rfl, 7919, k, rfl, rfl, .inl ⟨by decide, by decide⟩, _, rfl, _, k, rfl, rfl, .inr kk, _, _, rfl, rfl, _, 43, rfl, rfl, _, 48271, rfl, rfl, .inr ⟨by decide, by decide⟩, _, _, rfl, rfl, (by show (0 : Int) < 2305843009213693921; decide), ?_⟩
      refine ⟨by show 3 ≤ sizeLine; decide, ?_⟩
      rw [emod]
      exact fin _ (own0 _ _) (own1 _ _) _ (Int.emod_nonneg _ (by decide)) (Int.emod_lt_of_pos _ (by decide))

def spTake : Sp := fun vs H Q _ => ∃ b many n, vs = [.ref b, .int many] ∧ Box H b n ∧ n ≤ 1000000 ∧ 1 ≤ many ∧ many ≤ 10 ^ 40 ∧
  ∀ r H', 0 ≤ r → r < many → Box H' b (n + 1) → (∀ a, a ≠ b → H' a = H a) → Q (.int r) H'
theorem ok_take {f : Addr} {fd : FuncData} {k : Nat} (F : Fun K "_law_take" "_law_take" sTake f fd) :
    FnOk P w K mg base CX0 (k + 1) f fd ["_law_box_here", "_law_many"] spTake := by
  refine F.ok scTake (fun vs H Q E h => ?_) (fun cdv A outer s H vs Q E hr h => ?_)
  · obtain ⟨b, many, n, rfl, _⟩ := h
    rfl
  · obtain ⟨b, many, n, rfl, ⟨o, m, c, e, h1, h2, h3, h4, h5, h6⟩, hn, m1, m2, q⟩ := h
    refine ⟨_, pss_cons (ps_if (pt_cmpR op_gt (pe_ix ix_list (pv 0) pe_int (fun _ _ => rfl)) pe_int (nomark _))
        (pss_cons (ps_set (i := 2) scTake.nd rfl (.inl rfl) (pe_op op_mod (pe_ix ix_list (pv 0) pe_int (fun _ _ => rfl)) (pv 1)))
        (pss_cons (ps_asg (pe_op op_fdivW (pe_ix ix_list (pv 0) pe_int (fun _ _ => rfl)) (pv 1)) (pg_sub (pv 0) pe_int set_list))
        (pss_one (ps_ret (pv 2))))) pss_nil)
      (pss_cons (ps_asg (pe_op op_add (pe_ix ix_list (pv 0) pe_int (fun _ _ => rfl)) pe_int) (pg_sub (pv 0) pe_int set_list))
      (pss_cons (ps_set (i := 3) scTake.nd rfl (.inl rfl) (pe_op op_mod (pe_op op_mul
          (pe_op op_add (pe_op op_add (pe_ix ix_list (pv 0) pe_int (fun _ _ => rfl)) (pe_op op_mul (pe_op op_mul pe_int (pe_ix ix_list (pv 0) pe_int (fun _ _ => rfl))) (pe_ix ix_list (pv 0) pe_int (fun _ _ => rfl)))) pe_int) pe_int) pe_int))
      (pss_cons (ps_set (i := 3) scTake.nd rfl (.inl rfl) (pe_op op_mod (pe_op op_mul (pv 3)
          (pe_op op_add (pe_op op_mod (pv 3) pe_int) (pe_op op_mul pe_int (pe_ix ix_list (pv 0) pe_int (fun _ _ => rfl))))) pe_int))
      (pss_one (ps_ret (pe_op op_mod (pe_op op_add (pe_op op_fdiv (pv 3) pe_int) (pe_op op_fdiv (pv 3) pe_int)) (pv 1))))))), ?_⟩
    have hdiv : CDivW o many := wide_div (b := 200) (by omega) (by omega) (by decide) (by decide)
    have hmany : (fun (_ j : Int) => 0 < j) o many := show 0 < many by omega
    refine ⟨.ref b, rfl, b, _, 0, .int o, rfl, rfl, SqL.of e, atI_nat (j := 0) rfl, o, 0, rfl, rfl, _, rfl, ite2 (fun ho => ?_) (fun ho => ?_)⟩
    · refine ⟨.ref b, rfl, b, _, 0, .int o, rfl, rfl, SqL.of e, atI_nat (j := 0) rfl, _, rfl, o, many, rfl, rfl, hmany, ?_⟩
      refine ⟨.ref b, rfl, b, _, 0, .int o, rfl, rfl, SqL.of e, atI_nat (j := 0) rfl, _, rfl, o, many, rfl, rfl, hdiv, .ref b, rfl, b, _, 0, 0, rfl, rfl, e, rfl, ?_⟩
      refine ⟨_, rfl, ?_⟩
      refine q _ _ (Int.emod_nonneg _ (by omega)) (Int.emod_lt_of_pos _ (by omega)) ⟨o / many, m, c, upd_same, ?_, ?_, h3, h4, h5, by omega⟩ ?_
      · exact Int.ediv_nonneg h1 (by omega)
      · exact Int.lt_of_le_of_lt (Int.ediv_le_self _ h1) h2
      · intro a ha
        exact upd_ne ha
    · have hc1 : (-(2 ^ 64) : Int) < c + 1 ∧ c + 1 < 2 ^ 64 := ⟨by omega, by omega⟩
      refine ⟨.ref b, rfl, b, _, 2, .int c, rfl, rfl, SqL.of e, atI_nat (j := 2) rfl, c, 1, rfl, rfl, .ref b, rfl, b, _, 2, 2, rfl, rfl, e, rfl, ?_⟩
      generalize hH : upd H b (HO.lst (List.set [V.int o, V.int m, V.int c] 2 (V.int (c + 1)))) = H2
      have e2 : H2 b = some (.lst [.int o, .int m, .int (c + 1)]) := by rw [← hH]; exact upd_same
      have off : ∀ a, a ≠ b → H2 a = H a := fun a ha => by rw [← hH]; exact upd_ne ha
      refine ⟨.ref b, rfl, b, _, 1, .int m, rfl, rfl, SqL.of e2, atI_nat (j := 1) rfl, .ref b, rfl, b, _, 2, .int (c + 1), rfl, rfl, SqL.of e2, atI_nat (j := 2) rfl, 65537, c + 1, rfl, rfl, .inr hc1, .ref b, rfl, b, _, 2, .int (c + 1), rfl, rfl, SqL.of e2, atI_nat (j := 2) rfl, _, c + 1, rfl, rfl, .inr hc1, m, _, rfl, rfl, _, 11, rfl, rfl, _, 48271, rfl, rfl, .inr ⟨by decide, by decide⟩, _, _, rfl, rfl, (by show (0 : Int) < 2305843009213693921; decide), ?_⟩
      refine ⟨_, rfl, _, rfl, _, 1000003, rfl, rfl, (by show (0 : Int) < 1000003; decide), .ref b, rfl, b, _, 2, .int (c + 1), rfl, rfl, SqL.of e2, atI_nat (j := 2) rfl, 99991, c + 1, rfl, rfl, .inr hc1, _, _, rfl, rfl, _, _, rfl, rfl, .inl (modb _), _, _, rfl, rfl, (by show (0 : Int) < 2305843009213693907; decide), ?_⟩
      refine ⟨_, rfl, _, 97, rfl, rfl, ⟨by decide, by decide⟩, _, rfl, _, 1000033, rfl, rfl, ⟨by decide, by decide⟩, _, _, rfl, rfl, .int many, rfl, _, many, rfl, rfl, (by show (0 : Int) < many; omega), ?_⟩
      refine q _ _ (Int.emod_nonneg _ (by omega)) (Int.emod_lt_of_pos _ (by omega)) ⟨o, m, c + 1, e2, h1, h2, h3, h4, by omega, by omega⟩ off

def spOf : Sp := fun vs H Q _ => ∃ b l n xs, vs = [.ref b, .ref l] ∧ Box H b n ∧ n ≤ 1000000 ∧ H l = some (.lst xs) ∧ b ≠ l ∧ 1 ≤ xs.length ∧ xs.length ≤ 1000 ∧
  ∀ x H', x ∈ xs → Box H' b (n + 1) → (∀ a, a ≠ b → H' a = H a) → Q x H'
theorem ok_of {f fT : Addr} {fd fdT : FuncData} {k : Nat} (F : Fun K "_law_of" "_law_of" sOf f fd) (FT : Fun K "_law_take" "_law_take" sTake fT fdT) (bT : Binds K fdT ["_law_box_here", "_law_many"] [])
    (gT : mg "_law_take" = some (.ref fT)) (ml : mg "len" = none) :
    FnOk P w K mg base CX0 (k + 2) f fd ["_law_box_here", "_law_some"] spOf := by
  have GT : FnOk P w K mg base CX0 (k + 1) fT fdT ["_law_box_here", "_law_many"] spTake := ok_take FT
  refine F.ok scOf (fun vs H Q E h => ?_) (fun cdv A outer s H vs Q E hr h => ?_)
  · obtain ⟨b, l, n, xs, rfl, _⟩ := h
    rfl
  · obtain ⟨b, l, n, xs, rfl, hB, hn, hx, ne, l1, l2, q⟩ := h
    refine ⟨_, pss_one (ps_ret (pe_ix ix_list (pv 1) (pe_call GT hr (by rfl) gT FT.kp bT .nil pass0 (pa_cons (pv 0) (pa_cons
      (pe_callB call_len_seq (by rfl) ml PySem.boot_len (pa_cons (pv 1) pa_nil)) pa_nil))) (fun _ _ => rfl))), ?_⟩
    refine ⟨.ref l, rfl, .ref b, rfl, .ref l, rfl, l, xs, rfl, .inl (SqL.of hx), b, (xs.length : Int), n, rfl, hB, hn, by omega, by omega, ?_⟩
    intro r H' r0 r1 hB' hk
    have hxl : H' l = some (.lst xs) := by rw [hk l (Ne.symm ne)]; exact hx
    obtain ⟨j, rfl⟩ : ∃ j : Nat, r = (j : Int) := ⟨r.toNat, by omega⟩
    have hj : j < xs.length := by omega
    exact ⟨l, xs, (j : Int), xs[j], rfl, rfl, SqL.of hxl, atI_nat (List.getElem?_eq_getElem hj), q _ H' (List.getElem_mem hj) hB' hk⟩
end
/-! ### what stays while the box is drawn from -/
def SX (b : Addr) (H H' : Hp) : Prop := ∀ a o, a ≠ b → H a = some o → H' a = some o
theorem SX.refl (b : Addr) (H : Hp) : SX b H H := fun _ _ _ h => h
theorem SX.trans {b : Addr} {H H1 H2 : Hp} (x : SX b H H1) (y : SX b H1 H2) : SX b H H2 := fun a o n h => y a o n (x a o n h)
theorem SX.of_same {b : Addr} {H H' : Hp} (h : Same H H') : SX b H H' := fun a o _ e => h a o e
theorem SX.of_eq {b : Addr} {H H' : Hp} (h : ∀ a, a ≠ b → H' a = H a) : SX b H H' := fun a o n e => by rw [h a n]; exact e
theorem SX.new {b : Addr} {H H' : Hp} {p : Addr} {o : HO} (x : SX b H H') (hp : H' p = none) : SX b H (upd H' p o) := x.trans (.of_same (same_upd hp))
theorem SX.free {b p : Addr} {H H' : Hp} {n : Nat} (x : SX b H H') (hB : Box H' b n) (h : H' p = none) : H p = none := by
  cases e : H p with
  | none => rfl
  | some o =>
    by_cases hb : p = b
    · subst hb
      obtain ⟨_, _, _, z, _⟩ := hB
      rw [h] at z
      cases z
    · rw [x p o hb e] at h
      cases h
theorem Box.at {H H' : Hp} {b : Addr} {n : Nat} (h : Box H b n) (e : H' b = H b) : Box H' b n := by
  obtain ⟨o, m, c, z, r⟩ := h
  exact ⟨o, m, c, by rw [e]; exact z, r⟩
theorem Box.new {H : Hp} {b p : Addr} {n : Nat} {o : HO} (h : Box H b n) (hp : H p = none) : Box (upd H p o) b n := by
  obtain ⟨_, _, _, z, _⟩ := id h
  exact h.at (upd_ne (ne_of_none z hp))
theorem Box.some {H : Hp} {b : Addr} {n : Nat} (h : Box H b n) : H b ≠ none := by
  obtain ⟨_, _, _, z, _⟩ := h
  rw [z]
  exact fun q => nomatch q

end K03

namespace K03
open PySem PySem.Spec PyProof.Rows L2 MG
abbrev sTwosIn : Stmt := topS 1
abbrev sOddPart : Stmt := topS 2
abbrev sCommon : Stmt := topS 3
abbrev sUnit : Stmt := topS 4
abbrev sMeasure : Stmt := topS 5
abbrev sTwos : Stmt := topS 6
abbrev sOddOnes : Stmt := topS 7
theorem scTwosIn : FnScope ["n"] ["n"] (defScope sTwosIn) := ⟨rfl, rfl, rfl, by decide +kernel, rfl, by decide +kernel, by decide +kernel⟩
theorem scOddPart : FnScope ["n"] ["n"] (defScope sOddPart) := ⟨rfl, rfl, rfl, by decide +kernel, rfl, by decide +kernel, by decide +kernel⟩
theorem scCommon : FnScope ["a", "b"] ["a", "b"] (defScope sCommon) := ⟨rfl, rfl, rfl, by decide +kernel, rfl, by decide +kernel, by decide +kernel⟩
theorem scUnit : FnScope ["row", "greatest", "amount"] ["row"] (defScope sUnit) := ⟨rfl, rfl, rfl, by decide +kernel, rfl, by decide +kernel, by decide +kernel⟩
theorem scMeasure : FnScope ["row"] ["row"] (defScope sMeasure) := ⟨rfl, rfl, rfl, by decide +kernel, rfl, by decide +kernel, by decide +kernel⟩
theorem scTwos : FnScope ["row"] ["row"] (defScope sTwos) := ⟨rfl, rfl, rfl, by decide +kernel, rfl, by decide +kernel, by decide +kernel⟩
theorem scOddOnes : FnScope ["row", "fewest_twos", "amount"] ["row"] (defScope sOddOnes) := ⟨rfl, rfl, rfl, by decide +kernel, rfl, by decide +kernel, by decide +kernel⟩

theorem gl_take_succ (ns : List Int) (i : Nat) (h : i < ns.length) : gl (ns.take (i + 1)) = Nat.gcd (gl (ns.take i)) ns[i].toNat := by
  rw [List.take_add_one, List.getElem?_eq_getElem h, gl_append]
  show Nat.gcd _ (Nat.gcd _ 0) = _
  rw [Nat.gcd_zero_right]

section
variable {P : Program} {w : World} {K : PySem.W.Frag} {mg : Str → Option Value} {base : Heap}
def spTwosIn : Sp := fun vs H Q _ => ∃ n : Int, vs = [.int n] ∧ 0 < n ∧ Q (.int (v2 n.toNat : Nat)) H
theorem ok_twosIn {f : Addr} {fd : FuncData} {k : Nat} (F : Fun K "twos_in" "twos_in" sTwosIn f fd) : FnOk P w K mg base CX0 (k + 1) f fd ["n"] spTwosIn := by
  refine F.ok scTwosIn (fun vs H Q E h => ?_) (fun cdv A outer s H vs Q E hr h => ?_)
  · obtain ⟨n, rfl, _⟩ := h
    rfl
  · obtain ⟨n, rfl, hn, q⟩ := h
    refine ⟨_, pss_one (ps_ret (pe_op op_sub (pe_bits (pe_op op_and (pv 0) (pe_un un_neg (pv 0)))) pe_int)), ?_⟩
    refine ⟨_, rfl, _, rfl, n, rfl, n, -n, rfl, rfl, _, rfl, _, 1, rfl, rfl, ?_⟩
    rw [low_bit hn, bits_pow]
    show Q (.int (((v2 n.toNat + 1 : Nat) : Int) - 1)) H
    rw [show (((v2 n.toNat + 1 : Nat) : Int) - 1) = ((v2 n.toNat : Nat) : Int) by omega]
    exact q
def spOddPart : Sp := fun vs H Q _ => ∃ n : Int, vs = [.int n] ∧ 0 < n ∧ Q (.int (n / 2 ^ v2 n.toNat)) H
theorem ok_oddPart {f fT : Addr} {fd fdT : FuncData} {k : Nat} (F : Fun K "odd_part" "odd_part" sOddPart f fd) (FT : Fun K "twos_in" "twos_in" sTwosIn fT fdT) (bT : Binds K fdT ["n"] []) (gT : mg "twos_in" = some (.ref fT)) :
    FnOk P w K mg base CX0 (k + 2) f fd ["n"] spOddPart := by
  have GT : FnOk P w K mg base CX0 (k + 1) fT fdT ["n"] spTwosIn := ok_twosIn FT
  refine F.ok scOddPart (fun vs H Q E h => ?_) (fun cdv A outer s H vs Q E hr h => ?_)
  · obtain ⟨n, rfl, _⟩ := h
    rfl
  · obtain ⟨n, rfl, hn, q⟩ := h
    refine ⟨_, pss_one (ps_ret (pe_op op_shr (pv 0) (pe_call GT hr (by rfl) gT FT.kp bT .nil pass0 (pa_cons (pv 0) pa_nil)))), ?_⟩
    refine ⟨_, rfl, _, rfl, n, rfl, hn, n, _, rfl, rfl, Int.natCast_nonneg _, ?_⟩
    exact q
def spCommon : Sp := fun vs H Q _ => ∃ a b : Nat, vs = [.int a, .int b] ∧ Q (.int (Nat.gcd a b : Nat)) H
theorem ok_common {f : Addr} {fd : FuncData} {k : Nat} (F : Fun K "common_part" "common_part" sCommon f fd) : FnOk P w K mg base CX0 (k + 1) f fd ["a", "b"] spCommon := by
  refine F.ok scCommon (fun vs H Q E h => ?_) (fun cdv A outer s H vs Q E hr h => ?_)
  · obtain ⟨a, b, rfl, _⟩ := h
    rfl
  · obtain ⟨a, b, rfl, q⟩ := h
    refine ⟨_, pss_cons (ps_while PassesOwn.never (pt_cmpR op_gt (pv 1) pe_int (nomark _)) (pss_one (ps_par (i := 0) (j := 1) rfl scCommon.nd rfl rfl (by decide) rfl rfl (pa_cons (pv 1) (pa_cons (pe_op op_mod (pv 0) (pv 1)) pa_nil)) (by rfl))))
      (pss_one (ps_ret (pv 0))), ?_⟩
    refine while_by (fun σ H' => ∃ x y : Nat, σ = [some (.int x), some (.int y)] ∧ H' = H ∧ Nat.gcd x y = Nat.gcd a b) (fun σ _ => match σ with | [_, some (.int y)] => y.toNat | _ => 0) ⟨a, b, rfl, rfl, rfl⟩ ?_ ?_
    · rintro σ H' ⟨x, y, rfl, rfl, hg⟩
      refine ⟨_, rfl, (y : Int), 0, rfl, rfl, _, rfl, ite2 (fun hy => ?_) (fun hy => ?_)⟩
      · have hy' : 0 < y := by have := of_decide_eq_true hy; omega
        refine ⟨_, rfl, _, rfl, _, rfl, (x : Int), (y : Int), rfl, rfl, (by show (0 : Int) < y; omega), _, _, rfl, ⟨y, x % y, ?_, rfl, ?_⟩, ?_⟩
        · rw [Int.natCast_emod]; rfl
        · rw [← hg, Nat.gcd_comm x y, Nat.gcd_rec y x, Nat.gcd_comm]
        · show ((x : Int) % (y : Int)).toNat < (y : Int).toNat
          rw [← Int.natCast_emod]
          have := Nat.mod_lt x hy'
          omega
      · have hy' : y = 0 := by
          have : ¬ (y : Int) > 0 := fun z => hy (decide_eq_true z)
          omega
        subst hy'
        rw [Nat.gcd_zero_right] at hg
        refine ⟨_, rfl, ?_⟩
        rw [hg]
        exact q
    · rintro σ H' Q1 Q2 hq ⟨x, e1, i, j, e2, e3, z, e4, h⟩
      exact ⟨x, e1, i, j, e2, e3, z, e4, hq _ _ h⟩
def Row (H : Hp) (a : Addr) (ns : List Int) : Prop := H a = some (.tup (ns.map V.int)) ∧ (∀ n ∈ ns, 0 ≤ n ∧ n < 2 ^ 250) ∧ ns.length ≤ 40 ∧ ∃ n ∈ ns, 0 < n
theorem Row.same {H H' : Hp} {a : Addr} {ns : List Int} (r : Row H a ns) (s : Same H H') : Row H' a ns := ⟨s _ _ r.1, r.2⟩
theorem Row.pos {H : Hp} {a : Addr} {ns : List Int} (r : Row H a ns) : 0 < gl ns := by
  obtain ⟨_, _, _, n, hn, h0⟩ := r
  exact gl_pos hn h0
theorem Row.lt {H : Hp} {a : Addr} {ns : List Int} (r : Row H a ns) : (gl ns : Int) < 2 ^ 250 := by
  obtain ⟨_, hb, _, n, hn, h0⟩ := r
  exact Int.lt_of_le_of_lt (gl_le hn h0) (hb n hn).2
def spUnit : Sp := fun vs H Q _ => ∃ a ns, vs = [.ref a] ∧ Row H a ns ∧ Q (.int (gl ns : Nat)) H
theorem ok_unit {f fC : Addr} {fd fdC : FuncData} {k : Nat} (F : Fun K "unit" "unit" sUnit f fd) (FC : Fun K "common_part" "common_part" sCommon fC fdC) (bC : Binds K fdC ["a", "b"] []) (gC : mg "common_part" = some (.ref fC)) :
    FnOk P w K mg base CX0 (k + 2) f fd ["row"] spUnit := by
  have GC : FnOk P w K mg base CX0 (k + 1) fC fdC ["a", "b"] spCommon := ok_common FC
  refine F.ok scUnit (fun vs H Q E h => ?_) (fun cdv A outer s H vs Q E hr h => ?_)
  · obtain ⟨a, ns, rfl, _⟩ := h
    rfl
  · obtain ⟨a, ns, rfl, r, q⟩ := h
    refine ⟨_, pss_cons (ps_set (i := 1) scUnit.nd rfl (.inl rfl) pe_int) (pss_cons (ps_for PassesOwn.never rfl (pi_tup (pv 0)) (pg_name (i := 2) scUnit.nd rfl (.inl rfl))
        (pss_one (ps_set (i := 1) scUnit.nd rfl (.inl rfl) (pe_call GC hr (by rfl) gC FC.kp bC .nil pass0 (pa_cons (pv 1) (pa_cons (pv 2) pa_nil))))))
      (pss_one (ps_ret (pv 1)))), ?_⟩
    refine ⟨.ref a, rfl, a, rfl, ⟨_, SqT.of r.1⟩, ?_⟩
    refine for_tup (K := K) (a := a) (xs := ns.map V.int) (fun i σ H' => ∃ y2, σ = [some (.ref a), some (.int (gl (ns.take i) : Nat)), y2] ∧ H' = H) ⟨none, rfl, rfl⟩ ?_ ?_ ?_
    · rintro i σ H' _ ⟨y2, rfl, rfl⟩
      exact SqT.of r.1
    · rintro i x σ H' hx ⟨y2, rfl, rfl⟩
      rw [List.getElem?_map] at hx
      obtain ⟨n, hn, rfl⟩ := Option.map_eq_some_iff.mp hx
      obtain ⟨hi, hn'⟩ := List.getElem?_eq_some_iff.mp hn
      have h0 : 0 ≤ n := (r.2.1 n (List.mem_of_getElem? hn)).1
      refine ⟨_, rfl, _, rfl, gl (ns.take i), n.toNat, by rw [Int.toNat_of_nonneg h0]; rfl, some (.int n), ?_, rfl⟩
      rw [gl_take_succ ns i hi, hn']
      rfl
    · rintro σ H' ⟨y2, rfl, rfl⟩
      rw [List.length_map, List.take_length]
      exact ⟨_, rfl, q⟩
def spMeasure : Sp := fun vs H Q _ => ∃ a ns, vs = [.ref a] ∧ Row H a ns ∧ Q (.int ((gl ns : Nat) / 2 ^ v2 (gl ns))) H
def spTwos : Sp := fun vs H Q _ => ∃ a ns, vs = [.ref a] ∧ Row H a ns ∧ Q (.int (v2 (gl ns) : Nat)) H
theorem ok_measure {f fO fU : Addr} {fd fdO fdU : FuncData} {k : Nat} (F : Fun K "measure" "measure" sMeasure f fd) (FO : Fun K "odd_part" "odd_part" sOddPart fO fdO) (bO : Binds K fdO ["n"] []) (gO : mg "odd_part" = some (.ref fO)) (GO : FnOk P w K mg base CX0 (k + 2) fO fdO ["n"] spOddPart)
    (FU : Fun K "unit" "unit" sUnit fU fdU) (bU : Binds K fdU ["row"] []) (gU : mg "unit" = some (.ref fU)) (GU : FnOk P w K mg base CX0 (k + 2) fU fdU ["row"] spUnit) : FnOk P w K mg base CX0 (k + 3) f fd ["row"] spMeasure := by
  refine F.ok scMeasure (fun vs H Q E h => ?_) (fun cdv A outer s H vs Q E hr h => ?_)
  · obtain ⟨a, ns, rfl, _⟩ := h
    rfl
  · obtain ⟨a, ns, rfl, r, q⟩ := h
    refine ⟨_, pss_one (ps_ret (pe_call GO hr (by rfl) gO FO.kp bO .nil pass0 (pa_cons (pe_call GU hr (by rfl) gU FU.kp bU .nil pass0 (pa_cons (pv 0) pa_nil)) pa_nil))), ?_⟩
    have := r.pos
    refine ⟨_, rfl, a, ns, rfl, r, _, rfl, by omega, ?_⟩
    rw [Int.toNat_natCast]
    exact q
theorem ok_twos {f fT fU : Addr} {fd fdT fdU : FuncData} {k : Nat} (F : Fun K "twos" "twos" sTwos f fd) (FT : Fun K "twos_in" "twos_in" sTwosIn fT fdT) (bT : Binds K fdT ["n"] []) (gT : mg "twos_in" = some (.ref fT)) (GT : FnOk P w K mg base CX0 (k + 1) fT fdT ["n"] spTwosIn)
    (FU : Fun K "unit" "unit" sUnit fU fdU) (bU : Binds K fdU ["row"] []) (gU : mg "unit" = some (.ref fU)) (GU : FnOk P w K mg base CX0 (k + 2) fU fdU ["row"] spUnit) : FnOk P w K mg base CX0 (k + 3) f fd ["row"] spTwos := by
  refine F.ok scTwos (fun vs H Q E h => ?_) (fun cdv A outer s H vs Q E hr h => ?_)
  · obtain ⟨a, ns, rfl, _⟩ := h
    rfl
  · obtain ⟨a, ns, rfl, r, q⟩ := h
    refine ⟨_, pss_one (ps_ret (pe_call GT (hr.mono (by omega)) (by rfl) gT FT.kp bT .nil pass0 (pa_cons (pe_call GU hr (by rfl) gU FU.kp bU .nil pass0 (pa_cons (pv 0) pa_nil)) pa_nil))), ?_⟩
    have := r.pos
    refine ⟨_, rfl, a, ns, rfl, r, _, rfl, by omega, ?_⟩
    rw [Int.toNat_natCast]
    exact q
def spOddOnes : Sp := fun vs H Q _ => ∃ a ns, vs = [.ref a] ∧ Row H a ns ∧ ∀ H', Same H H' → Q (.int ((fewT (v2 (gl ns)) ns).length : Nat)) H'
theorem fewT_succ (t : Nat) (ns : List Int) (i : Nat) (h : i < ns.length) : fewT t (ns.take (i + 1)) = fewT t (ns.take i) ++ (if (decide (ns[i] > 0) && decide (v2 ns[i].toNat ≤ t)) = true then [ns[i]] else []) := by
  unfold fewT
  rw [List.take_add_one, List.getElem?_eq_getElem h, List.filter_append]
  congr 1
  show List.filter _ [ns[i]] = _
  rw [List.filter_cons, List.filter_nil]
theorem ok_oddOnes {f fT fS : Addr} {fd fdT fdS : FuncData} {k : Nat} (F : Fun K "odd_ones" "odd_ones" sOddOnes f fd) (FT : Fun K "twos_in" "twos_in" sTwosIn fT fdT) (bT : Binds K fdT ["n"] []) (gT : mg "twos_in" = some (.ref fT)) (GT : FnOk P w K mg base CX0 (k + 1) fT fdT ["n"] spTwosIn)
    (FS : Fun K "twos" "twos" sTwos fS fdS) (bS : Binds K fdS ["row"] []) (gS : mg "twos" = some (.ref fS)) (GS : FnOk P w K mg base CX0 (k + 3) fS fdS ["row"] spTwos) (ml : mg "len" = none) : FnOk P w K mg base CX0 (k + 4) f fd ["row"] spOddOnes := by
  refine F.ok scOddOnes (fun vs H Q E h => ?_) (fun cdv A outer s H vs Q E hr h => ?_)
  · obtain ⟨a, ns, rfl, _⟩ := h
    rfl
  · obtain ⟨a, ns, rfl, r, q⟩ := h
    have hr1 := hr.mono (show k + 1 ≤ k + 3 by omega)
    refine ⟨_, pss_cons (ps_set (i := 1) scOddOnes.nd rfl (.inr rfl) (pe_call GS hr (by rfl) gS FS.kp bS .nil pass0 (pa_cons (pv 0) pa_nil)))
      (pss_one (ps_ret (pe_callB call_len_seq (by rfl) ml PySem.boot_len (pa_cons
        (pe_lc (own := [("amount", 2)]) (g := gName 2) rfl scOddOnes.nd (pi_tup (pv 0)) (blkOk_by (N := ["row", "fewest_twos", "amount"]) (sc := defScope sOddOnes) (by decide +kernel))
          (fun _ _ _ _ _ => pg_name (i := 2) scOddOnes.nd rfl (Or.inl rfl))
          (fun _ _ _ _ _ => pts_one (PW.pt (pw_and (pt_cmpR op_gt (pv 2) pe_int (nomark _)) (pw_and1 (pt_cmpR op_le (pe_call GT hr1 (by rfl) gT FT.kp bT .nil pass0 (pa_cons (pv 2) pa_nil)) (pv 1) (nomark _))))))
          (fun _ _ _ _ _ => pv 2)) pa_nil)))), ?_⟩
    refine ⟨_, rfl, a, ns, rfl, r, ?_⟩
    refine ⟨.ref a, rfl, a, rfl, ⟨_, SqT.of r.1⟩, fun D nD => ?_⟩
    refine lc_tup (K := K) (a := a) (xs := ns.map V.int) (fun i H' => Same H H' ∧ H' D = some (.lst ((fewT (v2 (gl ns)) (ns.take i)).map V.int))) ⟨same_upd nD, upd_same⟩ ?_ ?_ ?_
    · rintro i H' _ ⟨sm, _⟩
      exact SqT.of (sm _ _ r.1)
    · rintro i x H' hx ⟨sm, hD⟩
      rw [List.getElem?_map] at hx
      obtain ⟨n, hn, rfl⟩ := Option.map_eq_some_iff.mp hx
      obtain ⟨hi, hn'⟩ := List.getElem?_eq_some_iff.mp hn
      have small : ((fewT (v2 (gl ns)) (ns.take i)).map V.int).length < sizeLine := by
        rw [List.length_map]
        refine small1000 (Nat.le_trans (List.length_filter_le _ _) ?_)
        rw [List.length_take]
        have := r.2.2.1
        omega
      refine ⟨rfl, _, rfl, n, 0, rfl, rfl, _, rfl, ite2 (fun h1 => ?_) (fun h1 => ?_)⟩
      · have h1' : 0 < n := of_decide_eq_true h1
        refine ⟨_, rfl, n, rfl, h1', _, rfl, _, _, rfl, rfl, _, rfl, ite2 (fun h2 => ?_) (fun h2 => ?_)⟩
        · have h2' : v2 n.toNat ≤ v2 (gl ns) := by have := of_decide_eq_true h2; omega
          refine ⟨_, rfl, _, hD, small, ?_, ?_⟩
          · intro c o hc
            rw [upd_ne (ne_of_none hc nD)]
            exact sm c o hc
          · rw [upd_same, fewT_succ _ _ _ hi, hn', decide_eq_true h1', decide_eq_true h2', List.map_append]
            rfl
        · have h2' : ¬ v2 n.toNat ≤ v2 (gl ns) := fun z => h2 (decide_eq_true (by omega))
          refine ⟨sm, ?_⟩
          rw [fewT_succ _ _ _ hi, hn', decide_eq_false h2', Bool.and_false, if_neg Bool.false_ne_true, List.append_nil]
          exact hD
      · have h1' : ¬ n > 0 := fun z => h1 (decide_eq_true z)
        refine iteF ⟨sm, ?_⟩
        rw [fewT_succ _ _ _ hi, hn', decide_eq_false h1', Bool.false_and, if_neg Bool.false_ne_true, List.append_nil]
        exact hD
    · rintro H' ⟨sm, hD⟩
      rw [List.length_map, List.take_length] at hD
      refine ⟨D, _, rfl, .inl (SqL.of hD), ?_⟩
      rw [List.length_map]
      exact q H' sm
end
end K03

namespace K03
open PySem PySem.Spec PyProof.Rows L2 MG
abbrev sSplit : Stmt := topS 12
abbrev sPlaces : Stmt := topS 13
theorem scSplit : FnScope ["_law_box_here", "_law_total", "_law_many", "_law_left", "_law_found", "_law_turn", "_law_more"] ["_law_box_here", "_law_total", "_law_many"] (defScope sSplit) := ⟨rfl, rfl, rfl, by decide +kernel, rfl, by decide +kernel, by decide +kernel⟩
theorem scPlaces : FnScope ["_law_box_here", "_law_amounts", "_law_nothing", "_law_left", "_law_found"] ["_law_box_here", "_law_amounts", "_law_nothing"] (defScope sPlaces) := ⟨rfl, rfl, rfl, by decide +kernel, rfl, by decide +kernel, by decide +kernel⟩
theorem Box.get {H : Hp} {b : Addr} {n : Nat} (h : Box H b n) : ∃ o, H b = Option.some o := by
  obtain ⟨_, _, _, z, _⟩ := h
  exact ⟨_, z⟩
/-- a change of what is new -/
theorem SX.set {b p : Addr} {H H' : Hp} {o : HO} (x : SX b H H') (hp : H p = none) : SX b H (upd H' p o) := fun a u na e => by
  rw [upd_ne (ne_of_none e hp)]
  exact x a u na e
theorem Box.set {H : Hp} {b p : Addr} {n : Nat} {o : HO} (h : Box H b n) (hp : b ≠ p) : Box (upd H p o) b n := h.at (upd_ne hp)
theorem erase_perm {α : Type} : ∀ (l : List α) (j : Nat) (h : j < l.length), (l[j] :: l.eraseIdx j).Perm l
  | x :: r, 0, _ => List.Perm.refl _
  | x :: r, j + 1, h => by
    have h' : j < r.length := by rw [List.length_cons] at h; omega
    show (r[j] :: x :: r.eraseIdx j).Perm (x :: r)
    exact (List.Perm.swap x r[j] _).trans ((erase_perm r j h').cons x)
theorem map_erase {α β : Type} (f : α → β) : ∀ (l : List α) (j : Nat), (l.map f).eraseIdx j = (l.eraseIdx j).map f
  | [], _ => rfl
  | x :: r, 0 => rfl
  | x :: r, j + 1 => by
    show f x :: (r.map f).eraseIdx j = f x :: (r.eraseIdx j).map f
    rw [map_erase f r j]
theorem dpInts {K : PySem.W.Frag} {H : Hp} : ∀ L : List Int, DpAll K H (L.map V.int) (L.map PyData.int)
  | [] => .nil
  | i :: L => .cons (.int i) (dpInts L)
theorem lay_ints : ∀ L : List Int, PyData.canLayAll0 (L.map PyData.int) = true
  | [] => rfl
  | i :: L => by
    rw [List.map_cons, PyData.canLayAll0, lay_ints L]
    rfl
theorem depth_ints : ∀ L : List Int, PyData.depthAll (L.map PyData.int) = 0
  | [] => rfl
  | i :: L => by
    rw [List.map_cons, PyData.depthAll, depth_ints L]
    rfl
theorem shaped_ints (L : List Int) : SeqAt.shaped (.list (L.map PyData.int)) = true := by
  unfold SeqAt.shaped
  rw [PyData.canLay0, lay_ints, PyData.depth, depth_ints]
  rfl
section
variable {P : Program} {w : World} {K : PySem.W.Frag} {mg : Str → Option Value} {base : Heap}
def spSplit : Sp := fun vs H Q _ => ∃ (b : Addr) (total many : Int) (n : Nat), vs = [.ref b, .int total, .int many] ∧ Box H b n ∧ n ≤ 900000 ∧ 1 ≤ many ∧ many ≤ 20 ∧ many ≤ total ∧ total ≤ 10 ^ 39 ∧
  ∀ p H' (ns : List Int), H p = none → (ns.length : Int) = many → (∀ x ∈ ns, 1 ≤ x ∧ x ≤ total) → Box H' b (n + 20) → SX b H H' → H' p = some (.lst (ns.map V.int)) → Q (.ref p) H'
theorem ok_split {f fT : Addr} {fd fdT : FuncData} {k : Nat} (F : Fun K "_law_split" "_law_split" sSplit f fd)
    (FT : Fun K "_law_take" "_law_take" sTake fT fdT) (bT : Binds K fdT ["_law_box_here", "_law_many"] []) (gT : mg "_law_take" = some (.ref fT)) (mR : mg "range" = none) :
    FnOk P w K mg base CX0 (k + 2) f fd ["_law_box_here", "_law_total", "_law_many"] spSplit := by
  have GT : FnOk P w K mg base CX0 (k + 1) fT fdT ["_law_box_here", "_law_many"] spTake := ok_take FT
  refine F.ok scSplit (fun vs H Q E h => ?_) (fun cdv A outer s H vs Q E hr h => ?_)
  · obtain ⟨b, total, many, n, rfl, _⟩ := h
    rfl
  · obtain ⟨b, total, many, n, rfl, hB, hn, m1, m2, m3, m4, q⟩ := h
    refine ⟨_, pss_cons (ps_par (i := 3) (j := 4) rfl scSplit.nd rfl rfl (by decide) rfl rfl (pa_cons (pe_op op_sub (pv 1) (pv 2)) (pa_cons (pe_lst pa_nil) pa_nil)) (by rfl))
      (pss_cons (ps_for PassesOwn.never rfl (pi_range1 rfl mR (pa_cons (pe_op op_sub (pv 2) pe_int) pa_nil)) (pg_name (i := 5) scSplit.nd rfl (.inl rfl))
        (pss_cons (ps_set (i := 6) scSplit.nd rfl (.inl rfl) (pe_call GT hr (by rfl) gT FT.kp bT .nil pass0 (pa_cons (pv 0) (pa_cons (pe_op op_add (pv 3) pe_int) pa_nil))))
        (pss_cons (ps_set (i := 3) scSplit.nd rfl (.inl rfl) (pe_op op_sub (pv 3) (pv 6)))
        (pss_one (ps_expr (pe_bm PySem.F.plainAttrs_list PySem.F.slot_list_append PySem.F.type_list_append mt_append (pv 4) (pa_cons (pe_op op_add pe_int (pv 6)) pa_nil)))))))
      (pss_one (ps_ret (pe_op op_cat (pv 4) (pe_lst (pa_cons (pe_op op_add pe_int (pv 3)) pa_nil)))))), ?_⟩
    refine ⟨_, rfl, _, rfl, total, many, rfl, rfl, by show 0 ≤ sizeLine; decide, fun fo nfo => ⟨_, _, rfl, ?_⟩⟩
    obtain ⟨bo, bz⟩ := hB.get
    have nbf : b ≠ fo := ne_of_none bz nfo
    refine ⟨_, rfl, many, 1, rfl, rfl, many - 1, rfl, by omega, by omega, ?_⟩
    refine for_range (lo := 0) (n := (many - 1).toNat) (fun i σ H' => ∃ y5 y6, ∃ left : Int, ∃ ns : List Int, σ = [some (.ref b), some (.int total), some (.int many), some (.int left), some (.ref fo), y5, y6] ∧ 0 ≤ left ∧ left ≤ total - many ∧ ns.length = i ∧ (∀ x ∈ ns, 1 ≤ x ∧ x ≤ total) ∧ SX b H H' ∧ Box H' b (n + i) ∧ H' fo = some (.lst (ns.map V.int))) ?_ ?_ ?_
    · exact ⟨none, none, total - many, [], rfl, by omega, by omega, rfl, fun x hx => absurd hx List.not_mem_nil, .of_same (same_upd nfo), hB.set nbf, upd_same⟩
    · rintro i σ H' hi ⟨y5, y6, left, ns, rfl, l0, l1, hl, hx, x', hB', ef⟩
      refine ⟨_, rfl, _, rfl, left, 1, rfl, rfl, b, left + 1, n + i, rfl, hB', by omega, by omega, by omega, fun r H'' r0 r1 hB'' k'' => ?_⟩
      refine ⟨_, rfl, _, rfl, left, r, rfl, rfl, ?_⟩
      refine ⟨_, rfl, .inl ⟨rfl, _, SqL.of (by rw [k'' fo nbf.symm]; exact ef)⟩, _, rfl, 1, r, rfl, rfl, fo, _, _, rfl, rfl, (by rw [k'' fo nbf.symm]; exact ef), ?_, ?_⟩
      · rw [List.length_map, hl]
        exact small1000 (by omega)
      · refine ⟨_, _, left - r, ns ++ [1 + r], rfl, by omega, by omega, by rw [List.length_append, hl]; rfl, ?_, ((x'.trans (.of_eq k'')).set nfo), hB''.set nbf, ?_⟩
        · intro y hy
          rcases List.mem_append.mp hy with hy | hy
          · exact hx y hy
          · rw [List.mem_singleton.mp hy]; omega
        · rw [upd_same, List.map_append]; rfl
    · rintro σ H' ⟨y5, y6, left, ns, rfl, l0, l1, hl, hx, x', hB', ef⟩
      refine ⟨_, rfl, _, rfl, 1, left, rfl, rfl, by show 1 ≤ sizeLine; decide, fun l2 n2 => ?_⟩
      refine ⟨fo, l2, _, _, rfl, rfl, same_upd n2 _ _ ef, upd_same, by rw [List.length_map]; show ns.length + 1 ≤ sizeLine; rw [sizeLine_eq]; omega, fun p np => ?_⟩
      have x2 : SX b H (upd H' l2 (.lst [.int (1 + left)])) := x'.new n2
      have hB2 : Box (upd H' l2 (.lst [.int (1 + left)])) b (n + (many - 1).toNat) := hB'.new n2
      refine q p _ (ns ++ [1 + left]) (x2.free hB2 np) (by rw [List.length_append, hl]; show ((_ + 1 : Nat) : Int) = _; omega) ?_ ((hB2.new np).le (by omega)) (x2.new np) ?_
      · intro y hy
        rcases List.mem_append.mp hy with hy | hy
        · exact hx y hy
        · rw [List.mem_singleton.mp hy]; omega
      · rw [upd_same, List.map_append]; rfl

def spPlaces : Sp := fun vs H Q _ => ∃ (b pa : Addr) (ns : List Int) (k : Int) (n : Nat), vs = [.ref b, .ref pa, .int k] ∧ Box H b n ∧ n ≤ 900000 ∧ (H pa = some (.lst (ns.map V.int)) ∨ H pa = some (.tup (ns.map V.int))) ∧ 0 ≤ k ∧ k ≤ 10 ∧ ns.length ≤ 30 ∧
  ∀ p H' (ms : List Int), H p = none → ms.Perm (ns ++ List.replicate k.toNat 0) → Box H' b (n + 45) → SX b H H' → H' p = some (.tup (ms.map V.int)) → Q (.ref p) H'
theorem ok_places {f fT : Addr} {fd fdT : FuncData} {k : Nat} (F : Fun K "_law_places" "_law_places" sPlaces f fd)
    (FT : Fun K "_law_take" "_law_take" sTake fT fdT) (bT : Binds K fdT ["_law_box_here", "_law_many"] []) (gT : mg "_law_take" = some (.ref fT)) (ml : mg "len" = none) (mL : mg "list" = none) (mT : mg "tuple" = none) :
    FnOk P w K mg base CX0 (k + 2) f fd ["_law_box_here", "_law_amounts", "_law_nothing"] spPlaces := by
  have GT : FnOk P w K mg base CX0 (k + 1) fT fdT ["_law_box_here", "_law_many"] spTake := ok_take FT
  refine F.ok scPlaces (fun vs H Q E h => ?_) (fun cdv A outer s H vs Q E hr h => ?_)
  · obtain ⟨b, pa, ns, k, n, rfl, _⟩ := h
    rfl
  · obtain ⟨b, pa, ns, kk, n, rfl, hB, hn, epa, k0, k1, hl, q⟩ := h
    refine ⟨_, pss_cons (ps_par (i := 3) (j := 4) rfl scPlaces.nd rfl rfl (by decide) rfl rfl (pa_cons (pe_op op_cat (pe_callTy call_list_of (by rfl) mL (by decide +kernel) (pa_cons (pv 1) pa_nil)) (pe_op op_rep (pe_lst (pa_cons pe_int pa_nil)) (pv 2))) (pa_cons (pe_lst pa_nil) pa_nil)) (by rfl))
      (pss_cons (ps_while PassesOwn.never (pt_cmpR (op_neD hr.units) (pv 3) (pe_lst pa_nil) (nomark _))
        (pss_one (ps_expr (pe_bm PySem.F.plainAttrs_list PySem.F.slot_list_append PySem.F.type_list_append mt_append (pv 4) (pa_cons
          (pe_bm PySem.F.plainAttrs_list PySem.F.slot_list_pop PySem.F.type_list_pop mt_popAt (pv 3) (pa_cons (pe_call GT hr (by rfl) gT FT.kp bT .nil pass0 (pa_cons (pv 0) (pa_cons (pe_callB call_len_seq (by rfl) ml PySem.boot_len (pa_cons (pv 3) pa_nil)) pa_nil))) pa_nil)) pa_nil)))))
      (pss_one (ps_ret (pe_callTy call_tuple_of (by rfl) mT (by decide +kernel) (pa_cons (pv 4) pa_nil))))), ?_⟩
    obtain ⟨bo, bz⟩ := hB.get
    refine ⟨_, rfl, pa, ns.map V.int, rfl, epa.elim (fun e => .inl (SqL.of e)) (fun e => .inr (SqT.of e)), fun l1 n1 => ?_⟩
    have s1 : Same H (upd H l1 (.lst (ns.map V.int))) := same_upd n1
    have g1 : upd H l1 (.lst (ns.map V.int)) l1 = some (.lst (ns.map V.int)) := upd_same
    generalize upd H l1 (HO.lst (ns.map V.int)) = H1 at s1 g1 ⊢
    refine ⟨by show 1 ≤ sizeLine; decide, fun l2 n2 => ?_⟩
    have s2 : Same H1 (upd H1 l2 (.lst [.int 0])) := same_upd n2
    refine ⟨_, rfl, l2, kk, [.int 0], rfl, rfl, upd_same, by omega, by omega, by show 1 * kk.toNat ≤ sizeLine; rw [sizeLine_eq]; omega, fun l3 n3 => ?_⟩
    have er : (List.replicate kk.toNat [V.int 0]).flatten = (List.replicate kk.toNat (0 : Int)).map V.int := by
      induction kk.toNat with
      | zero => rfl
      | succ m ih => rw [List.replicate_succ, List.flatten_cons, ih, List.replicate_succ]; rfl
    rw [er]
    have s3 : Same (upd H1 l2 (.lst [.int 0])) (upd (upd H1 l2 (.lst [.int 0])) l3 (.lst ((List.replicate kk.toNat (0 : Int)).map V.int))) := same_upd n3
    have g3 : upd (upd H1 l2 (.lst [.int 0])) l3 (.lst ((List.replicate kk.toNat (0 : Int)).map V.int)) l3 = some (.lst ((List.replicate kk.toNat (0 : Int)).map V.int)) := upd_same
    have S3 := s1.trans (s2.trans s3)
    have g13 := s3 _ _ (s2 _ _ g1)
    generalize upd (upd H1 l2 (.lst [.int 0])) l3 (.lst ((List.replicate kk.toNat (0 : Int)).map V.int)) = H3 at s3 g3 S3 g13 ⊢
    refine ⟨l1, l3, _, _, rfl, rfl, g13, g3, by rw [List.length_map, List.length_map, List.length_replicate, sizeLine_eq]; omega, fun l nl => ?_⟩
    rw [← List.map_append]
    have s4 : Same H3 (upd H3 l (.lst ((ns ++ List.replicate kk.toNat 0).map V.int))) := same_upd nl
    have g4 : upd H3 l (.lst ((ns ++ List.replicate kk.toNat 0).map V.int)) l = some (.lst ((ns ++ List.replicate kk.toNat 0).map V.int)) := upd_same
    have fl : H l = none := S3.free nl
    generalize upd H3 l (.lst ((ns ++ List.replicate kk.toNat 0).map V.int)) = H4 at s4 g4 ⊢
    have S4 := S3.trans s4
    refine ⟨by show 0 ≤ sizeLine; decide, fun fo nfo => ⟨_, _, rfl, ?_⟩⟩
    have ffo : H fo = none := S4.free nfo
    have nlf : l ≠ fo := ne_of_none g4 nfo
    have nbl : b ≠ l := ne_of_none bz fl
    have nbf : b ≠ fo := ne_of_none bz ffo
    have hB5 : Box (upd H4 fo (.lst [])) b n := by
      have := s4.trans (same_upd nfo (o := .lst []))
      have e5 := (S3.trans this) _ _ bz
      exact hB.at (by rw [e5, bz])
    have tot : (ns ++ List.replicate kk.toNat 0).length ≤ 40 := by rw [List.length_append, List.length_replicate]; omega
    generalize hall : ns ++ List.replicate kk.toNat 0 = all at g4 tot q
    refine while_by (fun σ H' => ∃ ls ms : List Int, σ = [some (.ref b), some (.ref pa), some (.int kk), some (.ref l), some (.ref fo)] ∧ (ls ++ ms).Perm all ∧ SX b H H' ∧ Box H' b (n + ms.length) ∧ H' l = some (.lst (ls.map V.int)) ∧ H' fo = some (.lst (ms.map V.int)))
      (fun _ H' => match H' l with | some (.lst xs) => xs.length | _ => 0) ⟨all, [], rfl, by rw [List.append_nil], (SX.of_same S4).new nfo, hB5, by rw [upd_ne nlf]; exact g4, upd_same⟩ ?_ ?_
    · rintro σ H' ⟨ls, ms, rfl, pm, x', hB', el, ef⟩
      have hlen := pm.length_eq
      rw [List.length_append] at hlen
      refine ⟨.ref l, rfl, by show 0 ≤ sizeLine; decide, fun e ne => ?_⟩
      have se : Same H' (upd H' e (.lst [])) := same_upd ne
      have ge : upd H' e (.lst []) e = some (.lst []) := upd_same
      have xe : SX b H (upd H' e (.lst [])) := x'.new ne
      have hBe : Box (upd H' e (.lst [])) b (n + ms.length) := hB'.new ne
      generalize upd H' e (HO.lst []) = G at se ge xe hBe ⊢
      have elG := se _ _ el
      have efG := se _ _ ef
      refine ⟨.list (ls.map PyData.int), .list [], .lst (SqL.of elG) (dpInts ls), .lst (SqL.of ge) .nil, shaped_ints ls, rfl, _, rfl, ?_⟩
      cases ls with
      | nil =>
        refine iteF ?_
        refine ⟨.ref fo, rfl, fo, _, rfl, .inl ⟨SqL.of efG, fun p np => ?_⟩⟩
        refine q p _ ms (xe.free hBe np) pm ((hBe.new np).le ?_) (xe.new np) upd_same
        have : ms.length ≤ 40 := by
          rw [List.length_nil] at hlen
          omega
        omega
      | cons i0 lr =>
        refine iteT ?_
        refine ⟨.ref fo, rfl, .inl ⟨rfl, _, SqL.of efG⟩, .ref l, rfl, .inl ⟨rfl, _, SqL.of elG⟩, .ref b, rfl, .ref l, rfl, l, _, rfl, .inl (SqL.of elG), ?_⟩
        rw [List.length_map]
        refine ⟨b, (((i0 :: lr).length : Nat) : Int), n + ms.length, rfl, hBe, by omega, by rw [List.length_cons]; omega, by omega, fun r H2 r0 r1 hB2 k2 => ?_⟩
        obtain ⟨j, rfl⟩ : ∃ j : Nat, r = (j : Int) := ⟨r.toNat, by omega⟩
        have hj : j < (i0 :: lr).length := by omega
        have el2 : H2 l = some (.lst ((i0 :: lr).map V.int)) := by rw [k2 l nbl.symm]; exact elG
        have ef2 : H2 fo = some (.lst (ms.map V.int)) := by rw [k2 fo nbf.symm]; exact efG
        have x2 : SX b H H2 := xe.trans (.of_eq k2)
        have hix : seqIndex? (j : Int) ((i0 :: lr).map V.int).length = some j := by
          unfold seqIndex?
          rw [List.length_map, if_neg (show ¬ (j : Int) < 0 by omega)]
          show (if (decide (0 ≤ (j : Int)) && decide ((j : Int) < ((i0 :: lr).length : Nat))) = true then some (j : Int).toNat else none) = some j
          rw [decide_eq_true (show 0 ≤ (j : Int) by omega), decide_eq_true (show (j : Int) < ((i0 :: lr).length : Nat) by omega)]
          rfl
        refine ⟨l, _, (j : Int), j, .int (i0 :: lr)[j], rfl, rfl, el2, by omega, by omega, hix, by rw [List.getElem?_map, List.getElem?_eq_getElem hj]; rfl, ?_⟩
        refine ⟨fo, _, _, rfl, rfl, by rw [upd_ne nlf.symm]; exact ef2, by rw [List.length_map]; exact small1000 (by omega), ?_⟩
        refine ⟨⟨(i0 :: lr).eraseIdx j, ms ++ [(i0 :: lr)[j]], rfl, ?_, (x2.set fl).set ffo, ?_, ?_, ?_⟩, ?_⟩
        · refine List.Perm.trans ?_ pm
          have h1 : ((i0 :: lr)[j] :: (i0 :: lr).eraseIdx j).Perm (i0 :: lr) := erase_perm _ j hj
          have h2 : ((i0 :: lr).eraseIdx j ++ (ms ++ [(i0 :: lr)[j]])).Perm ((i0 :: lr)[j] :: ((i0 :: lr).eraseIdx j ++ ms)) := by
            rw [← List.append_assoc]
            exact List.perm_append_comm
          refine h2.trans ?_
          rw [← List.cons_append]
          exact h1.append_right ms
        · rw [List.length_append]
          exact ((hB2.set nbl).set nbf)
        · rw [upd_ne nlf, upd_same, map_erase]
        · rw [upd_same, List.map_append]; rfl
        · show (match upd (upd H2 l _) fo _ l with | some (.lst xs) => xs.length | _ => 0) < (match H' l with | some (.lst xs) => xs.length | _ => 0)
          rw [upd_ne nlf, upd_same, el]
          show (((i0 :: lr).map V.int).eraseIdx j).length < ((i0 :: lr).map V.int).length
          rw [List.length_eraseIdx_of_lt (by rw [List.length_map]; exact hj), List.length_map, List.length_cons]
          omega
    · rintro σ H' Q1 Q2 hq ⟨x, e1, hz, h⟩
      refine ⟨x, e1, hz, fun p np => ?_⟩
      obtain ⟨d, e, a1, a2, a3, a4, z, a5, a6⟩ := h p np
      exact ⟨d, e, a1, a2, a3, a4, z, a5, hq _ _ a6⟩
end
end K03

namespace K03
open PySem PySem.Spec PyProof.Rows L2 MG
/-- a statement, a word that holds behind it, the rest -/
def tMid (t u : TS) : TS := fun D σ H => ∃ M : L2.St → Hp → Prop, t { D with nx := M } σ H ∧ ∀ σ1 H1, M σ1 H1 → u D σ1 H1
theorem pss_mid {X : Cx} {st : Stmt} {rest : List Stmt} {t u : TS} (a : PS X st t) (b : PSs X rest u) : PSs X (st :: rest) (tMid t u) := by
  constructor
  rintro pins s σ H D I ⟨M, hm, hu⟩
  refine wpAny_execs_cons (thn (a.run pins s σ H { D with nx := M } I hm) ?_)
  intro fl s1 q
  cases fl with
  | next =>
    obtain ⟨σ1, H1, I1, w⟩ := q
    exact b.run pins s1 σ1 H1 D I1 (hu σ1 H1 w)
  | ret v => exact q
  | brk => exact q
  | cont => exact q

abbrev sLine : Stmt := topS 14
abbrev nLine : List Str := ["_law_box_here", "_law_least", "_law_greatest", "_law_most", "_law_many", "_law_way", "_law_scale", "_law_total", "_law_amounts", "_law_amount"]
theorem scLine : FnScope ["_law_box_here", "_law_least", "_law_greatest", "_law_most", "_law_many", "_law_way", "_law_scale", "_law_total", "_law_amounts", "_law_amount"] ["_law_box_here", "_law_least", "_law_greatest", "_law_most"] (defScope sLine) := ⟨rfl, rfl, rfl, by decide +kernel, rfl, by decide +kernel, by decide +kernel⟩

section
variable {P : Program} {w : World} {K : PySem.W.Frag} {mg : Str → Option Value} {base : Heap}
def spLine : Sp := fun vs H Q _ => ∃ (b : Addr) (least greatest most : Int) (n : Nat), vs = [.ref b, .int least, .int greatest, .int most] ∧ Box H b n ∧ n ≤ 800000 ∧ 1 ≤ least ∧ least ≤ greatest ∧ greatest ≤ 15 ∧ 1 ≤ most ∧ most ≤ 10 ^ 38 ∧
  ∀ p H' (ns : List Int), H p = none → (least ≤ ns.length) → (ns.length ≤ greatest + 2) → (∀ x ∈ ns, 0 ≤ x ∧ x ≤ 10 ^ 41) → (∃ x ∈ ns, 0 < x) → Box H' b (n + 100) → SX b H H' → H' p = some (.tup (ns.map V.int)) → Q (.ref p) H'
theorem ok_line {f fT fO fS fP : Addr} {fd fdT fdO fdS fdP : FuncData} {k : Nat} (F : Fun K "_law_line" "_law_line" sLine f fd)
    (FT : Fun K "_law_take" "_law_take" sTake fT fdT) (bT : Binds K fdT ["_law_box_here", "_law_many"] []) (gT : mg "_law_take" = some (.ref fT))
    (FO : Fun K "_law_of" "_law_of" sOf fO fdO) (bO : Binds K fdO ["_law_box_here", "_law_some"] []) (gO : mg "_law_of" = some (.ref fO))
    (FS : Fun K "_law_split" "_law_split" sSplit fS fdS) (bS : Binds K fdS ["_law_box_here", "_law_total", "_law_many"] []) (gS : mg "_law_split" = some (.ref fS)) (GS : FnOk P w K mg base CX0 (k + 2) fS fdS ["_law_box_here", "_law_total", "_law_many"] spSplit)
    (FP : Fun K "_law_places" "_law_places" sPlaces fP fdP) (bP : Binds K fdP ["_law_box_here", "_law_amounts", "_law_nothing"] []) (gP : mg "_law_places" = some (.ref fP)) (GP : FnOk P w K mg base CX0 (k + 2) fP fdP ["_law_box_here", "_law_amounts", "_law_nothing"] spPlaces)
    (ml : mg "len" = none) (mM : mg "max" = none) :
    FnOk P w K mg base CX0 (k + 3) f fd ["_law_box_here", "_law_least", "_law_greatest", "_law_most"] spLine := by
  have GT : FnOk P w K mg base CX0 (k + 1) fT fdT ["_law_box_here", "_law_many"] spTake := ok_take FT
  have GO : FnOk P w K mg base CX0 (k + 2) fO fdO ["_law_box_here", "_law_some"] spOf := ok_of FO FT bT gT ml
  refine F.ok scLine (fun vs H Q E h => ?_) (fun cdv A outer s H vs Q E hr h => ?_)
  · obtain ⟨b, least, greatest, most, n, rfl, _⟩ := h
    rfl
  · obtain ⟨b, least, greatest, most, n, rfl, hB, hn, a1, a2, a3, a4, a5, q⟩ := h
    have hr1 := hr.mono (show k + 1 ≤ k + 2 by omega)
    refine ⟨_, pss_cons (ps_set (i := 4) scLine.nd rfl (.inl rfl) (pe_op op_add (pv 1) (pe_call GT hr1 (by rfl) gT FT.kp bT .nil pass0 (pa_cons (pv 0) (pa_cons (pe_op op_add (pe_op op_sub (pv 2) (pv 1)) pe_int) pa_nil)))))
      (pss_cons (ps_asg (pe_tup (pa_cons (pe_call GT hr1 (by rfl) gT FT.kp bT .nil pass0 (pa_cons (pv 0) (pa_cons pe_int pa_nil)))
          (pa_cons (pe_call GO hr (by rfl) gO FO.kp bO .nil pass0 (pa_cons (pv 0) (pa_cons (pe_lst (pa_cons pe_int (pa_cons pe_int (pa_cons pe_int (pa_cons pe_int (pa_cons pe_int (pa_cons pe_int (pa_cons pe_int pa_nil)))))))) pa_nil))) pa_nil)))
          (pg_tup rfl (pgs_cons (pg_name (i := 5) scLine.nd rfl (.inl rfl)) (pgs_cons (pg_name (i := 6) scLine.nd rfl (.inr rfl)) pgs_nil))))
      (pss_cons (ps_set (i := 7) scLine.nd rfl (.inl rfl) (pe_callB (call_max2 rfl) (by rfl) mM (by decide +kernel) (pa_cons (pv 4) (pa_cons (pe_op op_add pe_int
          (pe_call GT hr1 (by rfl) gT FT.kp bT .nil pass0 (pa_cons (pv 0) (pa_cons (pe_callB (call_max2 rfl) (by rfl) mM (by decide +kernel) (pa_cons pe_int (pa_cons (pe_op op_fdivW (pv 3) (pv 6)) pa_nil))) pa_nil)))) pa_nil))))
      (pss_cons (ps_set (i := 8) scLine.nd rfl (.inl rfl) (pe_call GS hr (by rfl) gS FS.kp bS .nil pass0 (pa_cons (pv 0) (pa_cons (pv 7) (pa_cons (pv 4) pa_nil)))))
      (pss_mid (ps_if (pt_cmpR op_eq (pv 5) pe_int (nomark _))
          (pss_one (ps_setLc (i := 8) (own := [("_law_amount", 9)]) (g := gName 9) (tt := tYes) rfl scLine.nd rfl rfl (sw_true rfl rfl rfl (by decide +kernel)) (pi_list (pv 8))
            (blkOk_by (N := nLine) (sc := defScope sLine) (by decide +kernel)) (fun _ _ _ _ _ => pg_name (i := 9) scLine.nd rfl (Or.inl rfl)) (fun _ _ _ _ _ => pts_nil)
            (fun _ _ _ _ _ => pe_op op_add (pe_op op_mul pe_int (pe_op op_fdiv (pv 9) pe_int)) pe_int)))
          (pss_one (ps_if (pt_cmpR op_eq (pv 5) pe_int (nomark _))
            (pss_one (ps_set (i := 8) scLine.nd rfl (.inl rfl) (pe_op op_rep (pe_lst (pa_cons (pe_ix ix_list (pv 8) pe_int (fun _ _ => rfl)) pa_nil)) (pv 4))))
            (pss_one (ps_if (pt_cmpR op_eq (pv 5) pe_int (nomark _))
              (pss_one (ps_set (i := 8) scLine.nd rfl (.inl rfl) (pe_op op_cat (pe_lst (pa_cons (pe_ix ix_list (pv 8) pe_int (fun _ _ => rfl)) pa_nil))
                (pe_lc (own := [("_law_amount", 9)]) (g := gName 9) (tt := tYes) rfl scLine.nd (pi_list (pe_slice sl_list (pv 8) (po_some pe_int) po_none))
                  (blkOk_by (N := nLine) (sc := defScope sLine) (by decide +kernel)) (fun _ _ _ _ _ => pg_name (i := 9) scLine.nd rfl (Or.inl rfl)) (fun _ _ _ _ _ => pts_nil)
                  (fun _ _ _ _ _ => pe_op op_mul pe_int (pv 9))))))
              pss_nil)))))
      (pss_one (ps_ret (pe_call GP hr (by rfl) gP FP.kp bP .nil pass0 (pa_cons (pv 0) (pa_cons
          (pe_lc (own := [("_law_amount", 9)]) (g := gName 9) (tt := tYes) rfl scLine.nd (pi_list (pv 8))
            (blkOk_by (N := nLine) (sc := defScope sLine) (by decide +kernel)) (fun _ _ _ _ _ => pg_name (i := 9) scLine.nd rfl (Or.inl rfl)) (fun _ _ _ _ _ => pts_nil)
            (fun _ _ _ _ _ => pe_op op_mul (pv 6) (pv 9)))
          (pa_cons (pe_call GO hr (by rfl) gO FO.kp bO .nil pass0 (pa_cons (pv 0) (pa_cons (pe_lst (pa_cons pe_int (pa_cons pe_int (pa_cons pe_int (pa_cons pe_int (pa_cons pe_int pa_nil)))))) pa_nil))) pa_nil)))))))))), ?_⟩
    obtain ⟨bo, bz⟩ := hB.get
    refine ⟨_, rfl, _, rfl, _, rfl, _, rfl, greatest, least, rfl, rfl, _, 1, rfl, rfl, b, greatest - least + 1, n, rfl, hB, by omega, by omega, by omega, fun r1 H1 r10 r11 hB1 k1 => ⟨least, r1, rfl, rfl, ?_⟩⟩
    refine ⟨_, rfl, b, 6, n + 1, rfl, hB1, by omega, by decide, by decide, fun wy H2 w0 w1 hB2 k2 => ?_⟩
    refine ⟨_, rfl, by show 7 ≤ sizeLine; decide, fun l nl => ?_⟩
    have x2 : SX b H H2 := (SX.of_eq k1).trans (.of_eq k2)
    obtain ⟨bo2, bz2⟩ := hB2.get
    refine ⟨b, l, n + 1 + 1, _, rfl, hB2.new nl, by omega, upd_same, ne_of_none bz2 nl, by show 1 ≤ 7; decide, by show 7 ≤ 1000; decide, fun sc H3 hsc hB3 k3 => ?_⟩
    obtain ⟨scale, rfl, sc1, sc6⟩ : ∃ v : Int, sc = .int v ∧ 1 ≤ v ∧ v ≤ 6 := by
      simp only [List.mem_cons, List.not_mem_nil, or_false] at hsc
      rcases hsc with h | h | h | h | h | h | h <;> exact ⟨_, h, by decide, by decide⟩
    have x3 : SX b H H3 := (x2.new nl).trans (.of_eq k3)
    refine ⟨by show 2 ≤ sizeLine; decide, fun tp ntp => ?_⟩
    refine ⟨tp, _, rfl, SqT.of upd_same, rfl, .int wy, [.int scale], rfl, .int scale, [], rfl, rfl, ?_⟩
    have x4 : SX b H (upd H3 tp (.tup [.int wy, .int scale])) := x3.new ntp
    have hB4 : Box (upd H3 tp (.tup [.int wy, .int scale])) b (n + 1 + 1 + 1) := hB3.new ntp
    generalize upd H3 tp (HO.tup [.int wy, .int scale]) = H4 at x4 hB4 ⊢
    have hdiv : CDivW most scale := wide_div (b := 10) (by omega) (by omega) (by decide) (by decide)
    have q0 : 0 ≤ most / scale := Int.ediv_nonneg (by omega) (by omega)
    have q1 : most / scale ≤ most := Int.ediv_le_self _ (by omega)
    have hmt1 : 1 ≤ (if most / scale > 1 then most / scale else 1) := by split <;> omega
    have hmt2 : (if most / scale > 1 then most / scale else 1) ≤ 10 ^ 38 := by split <;> omega
    refine ⟨_, rfl, _, rfl, _, rfl, _, rfl, most, scale, rfl, rfl, hdiv, 1, _, rfl, b, _, n + 1 + 1 + 1, rfl, hB4, by omega, hmt1, by omega, fun r2 H5 r20 r21 hB5 k5 => ⟨1, r2, rfl, rfl, _, _, rfl, ?_⟩⟩
    have x5 : SX b H H5 := x4.trans (.of_eq k5)
    dsimp only
    generalize hmany : least + r1 = many
    generalize htot : (if 1 + r2 > many then 1 + r2 else many) = total
    have t1 : many ≤ total := by rw [← htot]; split <;> omega
    have t2 : total ≤ 10 ^ 39 := by rw [← htot]; split <;> omega
    refine ⟨_, rfl, _, rfl, _, rfl, b, total, many, n + 1 + 1 + 1 + 1, rfl, hB5, by omega, by omega, by omega, t1, t2, fun pa H6 ns6 np6 hl6 hx6 hB6 x6' e_pa => ?_⟩
    have x6 : SX b H H6 := x5.trans x6'
    have hl7 : ns6.length ≤ 15 := by omega
    refine ⟨fun σ H' => ∃ pa ns y9, σ = [some (.ref b), some (.int least), some (.int greatest), some (.int most), some (.int many), some (.int wy), some (.int scale), some (.int total), some (.ref pa), y9] ∧ H' pa = some (.lst (List.map V.int ns)) ∧ (ns.length : Int) = many ∧ (∀ x ∈ ns, 1 ≤ x ∧ x ≤ 2 * total + 1) ∧ SX b H H' ∧ Box H' b (n + 24), ?_, ?_⟩
    · have stay : ∀ {H' : Hp}, Same H6 H' → SX b H H' ∧ Box H' b (n + 24) := fun sm => by
        obtain ⟨o, z⟩ := hB6.get
        exact ⟨x6.trans (.of_same sm), (hB6.at (by rw [sm _ _ z, z])).le (by omega)⟩
      refine ⟨_, rfl, rfl, _, rfl, ite2 (fun _ => ?_) (fun _ => ?_)⟩
      · refine ⟨.ref pa, rfl, pa, rfl, ⟨_, SqL.of e_pa⟩, fun D nD => ?_⟩
        refine lc_list (K := K) (a := pa) (xs := ns6.map V.int) (fun i H' => Same H6 H' ∧ H' D = some (.lst (((ns6.take i).map fun x => 2 * (x / 2) + 1).map V.int))) ⟨same_upd nD, upd_same⟩ ?_ ?_ ?_
        · rintro i H' _ ⟨sm, _⟩
          exact SqL.of (sm _ _ e_pa)
        · rintro i x H' hx ⟨sm, hD⟩
          rw [List.getElem?_map] at hx
          obtain ⟨v, hv, rfl⟩ := Option.map_eq_some_iff.mp hx
          refine ⟨rfl, _, rfl, v, 2, rfl, rfl, ⟨by decide, by decide⟩, 2, _, rfl, rfl, .inl ⟨by decide, by decide⟩, _, 1, rfl, rfl, _, hD, ?_, ?_, ?_⟩
          · rw [List.length_map, List.length_map, List.length_take]
            exact small1000 (by omega)
          · intro c o hc
            rw [upd_ne (ne_of_none hc nD)]
            exact sm c o hc
          · rw [upd_same, List.take_add_one, hv, List.map_append, List.map_append]
            rfl
        · rintro H' ⟨sm, hD⟩
          rw [List.length_map, List.take_length] at hD
          refine ⟨D, ns6.map fun x => 2 * (x / 2) + 1, _, rfl, hD, by rw [List.length_map]; exact hl6, ?_, stay sm⟩
          intro y hy
          obtain ⟨z, hz, rfl⟩ := List.mem_map.mp hy
          have := hx6 z hz
          omega
      refine ⟨_, rfl, rfl, _, rfl, ite2 (fun _ => ?_) (fun _ => ?_)⟩
      · have h0 : 0 < ns6.length := by omega
        refine ⟨.ref pa, rfl, pa, _, 0, .int ns6[0], rfl, rfl, SqL.of e_pa, atI_nat (j := 0) (by rw [List.getElem?_map, List.getElem?_eq_getElem h0]; rfl), by show 1 ≤ sizeLine; decide, fun l2 n2 => ?_⟩
        refine ⟨_, rfl, l2, many, [.int ns6[0]], rfl, rfl, upd_same, by omega, by omega, by show 1 * many.toNat ≤ sizeLine; rw [sizeLine_eq]; omega, fun l3 n3 => ?_⟩
        have er : (List.replicate many.toNat [V.int ns6[0]]).flatten = (List.replicate many.toNat ns6[0]).map V.int := by
          induction many.toNat with
          | zero => rfl
          | succ m ih => rw [List.replicate_succ, List.flatten_cons, ih, List.replicate_succ]; rfl
        rw [er]
        refine ⟨l3, List.replicate many.toNat ns6[0], _, rfl, upd_same, by rw [List.length_replicate]; omega, ?_, stay ((same_upd n2).trans (same_upd n3))⟩
        intro y hy
        rw [List.eq_of_mem_replicate hy]
        have := hx6 _ (List.getElem_mem h0)
        omega
      refine ⟨_, rfl, rfl, _, rfl, ite2 (fun _ => ?_) (fun _ => ?_)⟩
      · have h0 : 0 < ns6.length := by omega
        refine ⟨.ref pa, rfl, pa, _, 0, .int ns6[0], rfl, rfl, SqL.of e_pa, atI_nat (j := 0) (by rw [List.getElem?_map, List.getElem?_eq_getElem h0]; rfl), by show 1 ≤ sizeLine; decide, fun l2 n2 => ?_⟩
        have s7 : Same H6 (upd H6 l2 (.lst [.int ns6[0]])) := same_upd n2
        have g7 : upd H6 l2 (.lst [.int ns6[0]]) l2 = some (.lst [.int ns6[0]]) := upd_same
        generalize upd H6 l2 (HO.lst [.int ns6[0]]) = H7 at s7 g7 ⊢
        refine ⟨.ref pa, rfl, 1, rfl, ?_⟩
        dsimp only [tNoPart]
        refine ⟨pa, _, rfl, SqL.of (s7 _ _ e_pa), fun ps nps => ?_⟩
        have ecut : cutV (ns6.map V.int) (some 1) none = (ns6.drop 1).map V.int := by
          rw [List.map_drop]
          unfold cutV
          rw [show HT.sIx (ns6.map V.int).length 0 (some 1) = min 1 (ns6.map V.int).length from HT.sIx_nat _ 0 1, HT.sIx_none]
          rw [show min 1 (ns6.map V.int).length = 1 by rw [List.length_map]; omega]
          rw [List.take_of_length_le (by rw [List.length_drop]; omega)]
        rw [ecut]
        have s8 : Same H7 (upd H7 ps (.lst ((ns6.drop 1).map V.int))) := same_upd nps
        have e_ps : upd H7 ps (.lst ((ns6.drop 1).map V.int)) ps = some (.lst ((ns6.drop 1).map V.int)) := upd_same
        generalize upd H7 ps (HO.lst ((ns6.drop 1).map V.int)) = H8 at s8 e_ps ⊢
        have hl8 : (ns6.drop 1).length ≤ 15 := by rw [List.length_drop]; omega
        refine ⟨ps, rfl, ⟨_, SqL.of e_ps⟩, fun D nD => ?_⟩
        refine lc_list (K := K) (a := ps) (xs := (ns6.drop 1).map V.int) (fun i H' => Same H8 H' ∧ H' D = some (.lst ((((ns6.drop 1).take i).map fun x => 2 * x).map V.int))) ⟨same_upd nD, upd_same⟩ ?_ ?_ ?_
        · rintro i H' _ ⟨sm, _⟩
          exact SqL.of (sm _ _ e_ps)
        · rintro i x H' hx ⟨sm, hD⟩
          rw [List.getElem?_map] at hx
          obtain ⟨v, hv, rfl⟩ := Option.map_eq_some_iff.mp hx
          refine ⟨rfl, _, rfl, 2, v, rfl, rfl, .inl ⟨by decide, by decide⟩, _, hD, ?_, ?_, ?_⟩
          · rw [List.length_map, List.length_map, List.length_take]
            exact small1000 (by omega)
          · intro c o hc
            rw [upd_ne (ne_of_none hc nD)]
            exact sm c o hc
          · rw [upd_same, List.take_add_one, hv, List.map_append, List.map_append]
            rfl
        · rintro H' ⟨sm, hD⟩
          rw [List.length_map, List.take_length] at hD
          refine ⟨l2, D, _, _, rfl, rfl, sm _ _ (s8 _ _ g7), hD, by rw [List.length_map, List.length_map]; show 1 + _ ≤ sizeLine; rw [sizeLine_eq]; omega, fun l9 n9 => ?_⟩
          refine ⟨l9, ns6[0] :: (ns6.drop 1).map fun x => 2 * x, _, rfl, upd_same, ?_, ?_, stay (s7.trans (s8.trans (sm.trans (same_upd n9))))⟩
          · rw [List.length_cons, List.length_map, List.length_drop]; omega
          · intro y hy
            rcases List.mem_cons.mp hy with rfl | hy
            · have := hx6 _ (List.getElem_mem h0)
              omega
            · obtain ⟨z, hz, rfl⟩ := List.mem_map.mp hy
              have := hx6 z (List.mem_of_mem_drop hz)
              omega
      · exact ⟨pa, ns6, _, rfl, e_pa, hl6, fun x hx => by have := hx6 x hx; omega, stay (Same.refl _)⟩
    · rintro σ H7 ⟨pa, ns7, y9, rfl, e_pa, hl7', hx7, x7, hB7⟩
      have hl7 : ns7.length ≤ 15 := by omega
      refine ⟨_, rfl, .ref pa, rfl, pa, rfl, ⟨_, SqL.of e_pa⟩, fun D nD => ?_⟩
      refine lc_list (K := K) (a := pa) (xs := ns7.map V.int) (fun i H' => Same H7 H' ∧ H' D = some (.lst (((ns7.take i).map fun x => scale * x).map V.int))) ⟨same_upd nD, upd_same⟩ ?_ ?_ ?_
      · rintro i H' _ ⟨sm, _⟩
        exact SqL.of (sm _ _ e_pa)
      · rintro i x H' hx ⟨sm, hD⟩
        rw [List.getElem?_map] at hx
        obtain ⟨v, hv, rfl⟩ := Option.map_eq_some_iff.mp hx
        refine ⟨rfl, _, rfl, _, rfl, scale, v, rfl, rfl, .inl ⟨by omega, by omega⟩, _, hD, ?_, ?_, ?_⟩
        · rw [List.length_map, List.length_map, List.length_take]
          exact small1000 (by omega)
        · intro c o hc
          rw [upd_ne (ne_of_none hc nD)]
          exact sm c o hc
        · rw [upd_same, List.take_add_one, hv, List.map_append, List.map_append]
          rfl
      · rintro H' ⟨sm, hD⟩
        rw [List.length_map, List.take_length] at hD
        obtain ⟨o7, z7⟩ := hB7.get
        have hB8 : Box H' b (n + 24) := hB7.at (by rw [sm _ _ z7, z7])
        have x8 : SX b H H' := x7.trans (.of_same sm)
        refine ⟨_, rfl, by show 5 ≤ sizeLine; decide, fun l2 n2 => ?_⟩
        obtain ⟨o8, z8⟩ := hB8.get
        refine ⟨b, l2, n + 24, _, rfl, hB8.new n2, by omega, upd_same, ne_of_none z8 n2, by show 1 ≤ 5; decide, by show 5 ≤ 1000; decide, fun nt H9 hnt hB9 k9 => ?_⟩
        obtain ⟨nt, rfl, nt0, nt2⟩ : ∃ v : Int, nt = .int v ∧ 0 ≤ v ∧ v ≤ 2 := by
          simp only [List.mem_cons, List.not_mem_nil, or_false] at hnt
          rcases hnt with h | h | h | h | h <;> exact ⟨_, h, by decide, by decide⟩
        have x9 : SX b H H9 := (x8.new n2).trans (.of_eq k9)
        have nDb : D ≠ b := fun z => by
          rw [z] at hD
          obtain ⟨_, _, _, w8, _⟩ := hB8
          rw [w8] at hD
          have hh := HO.lst.inj (Option.some.inj hD)
          have hlen3 := congrArg List.length hh
          rw [z] at nD
          rw [nD] at z7
          cases z7
        have eD9 : H9 D = some (.lst ((ns7.map fun x => scale * x).map V.int)) := by rw [k9 D nDb]; exact same_upd n2 _ _ hD
        refine ⟨b, D, ns7.map fun x => scale * x, nt, n + 24 + 1, rfl, hB9, by omega, .inl eD9, nt0, by omega, by rw [List.length_map]; omega, fun p H10 ms np pm hB10 x10 ep => ?_⟩
        have hlm := pm.length_eq
        rw [List.length_append, List.length_map, List.length_replicate] at hlm
        have hmem : ∀ x ∈ ms, 0 ≤ x ∧ x ≤ 10 ^ 41 := fun x hx => by
          rcases List.mem_append.mp (pm.mem_iff.mp hx) with h | h
          · obtain ⟨z, hz, rfl⟩ := List.mem_map.mp h
            have h7 := hx7 z hz
            have u1 : 0 ≤ scale * z := Int.mul_nonneg (by omega) (by omega)
            have u2 : scale * z ≤ 6 * z := Int.mul_le_mul_of_nonneg_right sc6 (by omega)
            omega
          · rw [List.eq_of_mem_replicate h]; omega
        have hpos : ∃ x ∈ ms, 0 < x := by
          have h0 : 0 < ns7.length := by omega
          have h7 := hx7 _ (List.getElem_mem h0)
          refine ⟨scale * ns7[0], pm.mem_iff.mpr (List.mem_append_left _ (List.mem_map.mpr ⟨_, List.getElem_mem h0, rfl⟩)), ?_⟩
          exact Int.mul_pos (by omega) (by omega)
        exact q p H10 ms (x9.free hB9 np) (by omega) (by omega) hmem hpos (hB10.le (by omega)) (x9.trans x10) ep
end
end K03

namespace K03
open PySem PySem.Spec PyProof.Rows L2 MG
theorem odd_at {n t : Nat} (h : 0 < n) (ht : t ≤ v2 n) : n / 2 ^ t % 2 = 1 ↔ v2 n ≤ t := by
  constructor
  · intro z
    refine Nat.le_of_not_lt fun hlt => ?_
    have h1 : 2 ^ (t + 1) ∣ n := (pow_dvd_iff h).mpr hlt
    obtain ⟨c, hc⟩ := h1
    have : n / 2 ^ t = 2 * c := Nat.div_eq_of_eq_mul_right (Nat.two_pow_pos t) (by rw [hc, Nat.pow_succ, Nat.mul_assoc])
    omega
  · intro z
    have e : t = v2 n := Nat.le_antisymm ht z
    rw [e]; exact odd_rest h
theorem v2_lt {n k : Nat} (h : 0 < n) (hk : n < 2 ^ k) : v2 n < k := by
  refine Nat.lt_of_not_le fun z => ?_
  have h1 := Nat.le_of_dvd h (pow_v2_dvd n)
  have h2 : 2 ^ k ≤ 2 ^ v2 n := Nat.pow_le_pow_right (by decide) z
  omega
/-- the count that the parting by hand tells -/
def oddC (g : Nat) (l : List Int) : List Int := l.filter fun n => decide (n / ((g : Int) / ((g : Int) / 2 ^ v2 g)) % 2 = 1)
theorem oddC_eq {ns : List Int} (hp : ∃ n ∈ ns, 0 < n) : (oddC (gl ns) (ns.filter fun n => decide (n > 0))).length = (fewT (v2 (gl ns)) ns).length := by
  obtain ⟨n0, hn0, h0⟩ := hp
  have hg : 0 < gl ns := gl_pos hn0 h0
  have e1 : ((gl ns : Int) / ((gl ns : Int) / 2 ^ v2 (gl ns))) = ((2 ^ v2 (gl ns) : Nat) : Int) := by
    have e2 : ((gl ns : Int) / 2 ^ v2 (gl ns)) = ((gl ns / 2 ^ v2 (gl ns) : Nat) : Int) := by
      rw [Int.natCast_ediv, Int.natCast_pow]; rfl
    rw [e2, ← Int.natCast_ediv]
    congr 1
    have h3 := v2_split hg
    have h4 : 0 < gl ns / 2 ^ v2 (gl ns) := by
      rcases Nat.eq_zero_or_pos (gl ns / 2 ^ v2 (gl ns)) with z | z
      · rw [z, Nat.mul_zero] at h3; omega
      · exact z
    exact Nat.div_eq_of_eq_mul_left h4 h3
  unfold oddC fewT
  rw [List.filter_filter, e1]
  congr 1
  refine List.filter_congr fun n hn => ?_
  by_cases hpos : n > 0
  · rw [decide_eq_true hpos, Bool.and_true, Bool.true_and]
    have hd : gl ns ∣ n.toNat := gl_dvd hn
    have ht : v2 (gl ns) ≤ v2 n.toNat := (pow_dvd_iff (by omega)).mp (Nat.dvd_trans (pow_v2_dvd _) hd)
    have key := odd_at (n := n.toNat) (by omega) ht
    have e3 : n / ((2 ^ v2 (gl ns) : Nat) : Int) % 2 = ((n.toNat / 2 ^ v2 (gl ns) % 2 : Nat) : Int) := by
      rw [Int.natCast_emod, Int.natCast_ediv, Int.toNat_of_nonneg (by omega)]
      rfl
    rw [e3]
    by_cases z : n.toNat / 2 ^ v2 (gl ns) % 2 = 1
    · rw [z, decide_eq_true (key.mp z)]; rfl
    · rw [decide_eq_false (fun y => z (key.mpr y)), decide_eq_false (fun y => z (by omega))]
  · rw [decide_eq_false hpos, Bool.and_false, Bool.false_and]

abbrev sStays : Stmt := topS 15
abbrev nStays : List Str := ["_law_here", "_law_amount", "_law_some", "_law_scale", "_law_one", "_law_other", "_law_odd", "_law_many"]
theorem scStays : FnScope ["_law_here", "_law_amount", "_law_some", "_law_scale", "_law_one", "_law_other", "_law_odd", "_law_many"] ["_law_here"] (defScope sStays) := ⟨rfl, rfl, rfl, by decide +kernel, rfl, by decide +kernel, by decide +kernel⟩

section
variable {P : Program} {w : World} {K : PySem.W.Frag} {mg : Str → Option Value} {base : Heap}
def spStays : Sp := fun vs H Q _ => ∃ a ns, vs = [.ref a] ∧ Row H a ns ∧ ∀ p H', Same H H' → H' p = some (.tup [.int ns.sum, .int ((gl ns : Nat) / 2 ^ v2 (gl ns)), .int (v2 (gl ns) : Nat), .int ((fewT (v2 (gl ns)) ns).length : Nat)]) → Q (.ref p) H'
theorem ok_stays {f : Addr} {fd : FuncData} {k : Nat} (F : Fun K "_law_stays" "_law_stays" sStays f fd) (ml : mg "len" = none) (mS : mg "sum" = none) :
    FnOk P w K mg base CX0 (k + 1) f fd ["_law_here"] spStays := by
  refine F.ok scStays (fun vs H Q E h => ?_) (fun cdv A outer s H vs Q E hr h => ?_)
  · obtain ⟨a, ns, rfl, _⟩ := h
    rfl
  · obtain ⟨a, ns, rfl, r, q⟩ := h
    refine ⟨_, pss_cons (ps_setLc (i := 2) (own := [("_law_amount", 1)]) (g := gName 1) rfl scStays.nd rfl rfl (sw_true rfl rfl rfl (by decide +kernel)) (pi_tup (pv 0))
          (blkOk_by (N := nStays) (sc := defScope sStays) (by decide +kernel)) (fun _ _ _ _ _ => pg_name (i := 1) scStays.nd rfl (Or.inl rfl))
          (fun _ _ _ _ _ => pts_one (pt_cmpR op_gt (pv 1) pe_int (nomark _))) (fun _ _ _ _ _ => pv 1))
      (pss_cons (ps_set (i := 3) scStays.nd rfl (.inr rfl) pe_int)
      (pss_cons (ps_for PassesOwn.never rfl (pi_list (pv 2)) (pg_name (i := 1) scStays.nd rfl (.inl rfl))
        (pss_cons (ps_par (i := 4) (j := 5) rfl scStays.nd rfl rfl (by decide) rfl rfl (pa_cons (pv 3) (pa_cons (pv 1) pa_nil)) (by rfl))
        (pss_cons (ps_while PassesOwn.never (pt_cmpR op_gt (pv 5) pe_int (nomark _)) (pss_one (ps_par (i := 4) (j := 5) rfl scStays.nd rfl rfl (by decide) rfl rfl (pa_cons (pv 5) (pa_cons (pe_op op_mod (pv 4) (pv 5)) pa_nil)) (by rfl))))
        (pss_one (ps_set (i := 3) scStays.nd rfl (.inr rfl) (pv 4))))))
      (pss_cons (ps_asg (pe_tup (pa_cons (pv 3) (pa_cons pe_int pa_nil))) (pg_tup rfl (pgs_cons (pg_name (i := 6) scStays.nd rfl (.inr rfl)) (pgs_cons (pg_name (i := 7) scStays.nd rfl (.inl rfl)) pgs_nil))))
      (pss_cons (ps_while PassesOwn.never (pt_cmpR op_eq (pe_op op_mod (pv 6) pe_int) pe_int (nomark _))
        (pss_one (ps_asg (pe_tup (pa_cons (pe_op op_fdiv (pv 6) pe_int) (pa_cons (pe_op op_add (pv 7) pe_int) pa_nil))) (pg_tup rfl (pgs_cons (pg_name (i := 6) scStays.nd rfl (.inr rfl)) (pgs_cons (pg_name (i := 7) scStays.nd rfl (.inl rfl)) pgs_nil))))))
      (pss_one (ps_ret (pe_tup (pa_cons (pe_callB (sumT rfl) (by rfl) mS (by decide +kernel) (pa_cons (pv 0) pa_nil)) (pa_cons (pv 6) (pa_cons (pv 7) (pa_cons
          (pe_callB call_len_seq (by rfl) ml PySem.boot_len (pa_cons
            (pe_lc (own := [("_law_amount", 1)]) (g := gName 1) rfl scStays.nd (pi_list (pv 2)) (blkOk_by (N := nStays) (sc := defScope sStays) (by decide +kernel))
              (fun _ _ _ _ _ => pg_name (i := 1) scStays.nd rfl (Or.inl rfl))
              (fun _ _ _ _ _ => pts_one (pt_cmpR op_eq (pe_op op_mod (pe_op op_fdivW (pv 1) (pe_op op_fdivW (pv 3) (pv 6))) pe_int) pe_int (nomark _))) (fun _ _ _ _ _ => pv 1)) pa_nil)) pa_nil))))))))))), ?_⟩
    refine ⟨.ref a, rfl, a, rfl, ⟨_, SqT.of r.1⟩, fun D nD => ?_⟩
    refine lc_tup (K := K) (a := a) (xs := ns.map V.int) (fun i H' => Same H H' ∧ H' D = some (.lst (((ns.take i).filter fun n => decide (n > 0)).map V.int))) ⟨same_upd nD, upd_same⟩ ?_ ?_ ?_
    · rintro i H' _ ⟨sm, _⟩
      exact SqT.of (sm _ _ r.1)
    · rintro i x H' hx ⟨sm, hD⟩
      rw [List.getElem?_map] at hx
      obtain ⟨n, hn, rfl⟩ := Option.map_eq_some_iff.mp hx
      refine ⟨rfl, _, rfl, n, 0, rfl, rfl, _, rfl, ite2 (fun h1 => ?_) (fun h1 => ?_)⟩
      · have h1' : n > 0 := of_decide_eq_true h1
        refine ⟨_, rfl, _, hD, ?_, ?_, ?_⟩
        · rw [List.length_map]
          refine small1000 (Nat.le_trans (List.length_filter_le _ _) ?_)
          rw [List.length_take]
          have := r.2.2.1
          omega
        · intro c o hc
          rw [upd_ne (ne_of_none hc nD)]
          exact sm c o hc
        · rw [upd_same, List.take_add_one, hn, List.filter_append, List.map_append]
          show _ = some (HO.lst (_ ++ List.map V.int (List.filter _ [n])))
          rw [List.filter_cons_of_pos (by simpa using h1'), List.filter_nil]
          rfl
      · have h1' : ¬ n > 0 := fun z => h1 (decide_eq_true z)
        refine ⟨sm, ?_⟩
        rw [List.take_add_one, hn, List.filter_append]
        show _ = some (HO.lst (List.map V.int (_ ++ List.filter _ [n])))
        rw [List.filter_cons_of_neg (by simpa using h1'), List.filter_nil, List.append_nil]
        exact hD
    rintro H1 ⟨s1, hD1⟩
    rw [List.length_map, List.take_length] at hD1
    generalize hps : (ns.filter fun n => decide (n > 0)) = ps at hD1
    have hgl : gl ps = gl ns := by rw [← hps]; exact gl_filter ns
    have hposP : ∀ n ∈ ps, 0 < n := fun n hn => by
      rw [← hps] at hn
      exact of_decide_eq_true (List.mem_filter.mp hn).2
    have hlp : ps.length ≤ 40 := by rw [← hps]; exact Nat.le_trans (List.length_filter_le _ _) r.2.2.1
    refine ⟨.ref D, rfl, D, rfl, ⟨_, SqL.of hD1⟩, ?_⟩
    refine for_list (K := K) (a := D) (xs := ps.map V.int) (fun i σ H' => ∃ y1 y4 y5, σ = [some (.ref a), y1, some (.ref D), some (.int (gl (ps.take i) : Nat)), y4, y5, none, none] ∧ H' = H1) ⟨_, _, _, rfl, rfl⟩ ?_ ?_ ?_
    · rintro i σ H' _ ⟨y1, y4, y5, rfl, rfl⟩
      exact SqL.of hD1
    · rintro i x σ H' hx ⟨y1, y4, y5, rfl, rfl⟩
      rw [List.getElem?_map] at hx
      obtain ⟨n, hn, rfl⟩ := Option.map_eq_some_iff.mp hx
      obtain ⟨hi, hn'⟩ := List.getElem?_eq_some_iff.mp hn
      have h0 : 0 < n := hposP n (List.mem_of_getElem? hn)
      refine ⟨_, rfl, _, rfl, _, _, rfl, ?_⟩
      refine while_by (fun σ H'' => ∃ x y : Nat, σ = [some (.ref a), some (.int n), some (.ref D), some (.int (gl (ps.take i) : Nat)), some (.int x), some (.int y), none, none] ∧ H'' = H' ∧ Nat.gcd x y = gl (ps.take (i + 1))) (fun σ _ => match σ with | [_, _, _, _, _, some (.int y), _, _] => y.toNat | _ => 0) ⟨gl (ps.take i), n.toNat, ?_, rfl, ?_⟩ ?_ ?_
      · rw [Int.toNat_of_nonneg (by omega)]
        rfl
      · rw [gl_take_succ ps i hi, hn']
      · rintro σ H'' ⟨x, y, rfl, rfl, hg⟩
        refine ⟨_, rfl, (y : Int), 0, rfl, rfl, _, rfl, ite2 (fun hy => ?_) (fun hy => ?_)⟩
        · have hy' : 0 < y := by have := of_decide_eq_true hy; omega
          refine ⟨_, rfl, _, rfl, _, rfl, (x : Int), (y : Int), rfl, rfl, (by show (0 : Int) < y; omega), _, _, rfl, ⟨y, x % y, ?_, rfl, ?_⟩, ?_⟩
          · rw [Int.natCast_emod]; rfl
          · rw [← hg, Nat.gcd_comm x y, Nat.gcd_rec y x, Nat.gcd_comm]
          · show ((x : Int) % (y : Int)).toNat < (y : Int).toNat
            rw [← Int.natCast_emod]
            have := Nat.mod_lt x hy'
            omega
        · have hy' : y = 0 := by
            have : ¬ (y : Int) > 0 := fun z => hy (decide_eq_true z)
            omega
          subst hy'
          rw [Nat.gcd_zero_right] at hg
          refine ⟨_, rfl, ?_⟩
          subst hg
          exact ⟨_, _, _, rfl, rfl⟩
      · rintro σ H'' Q1 Q2 hq ⟨x, e1, i, j, e2, e3, z, e4, h⟩
        exact ⟨x, e1, i, j, e2, e3, z, e4, hq _ _ h⟩
    rintro σ H' ⟨y1, y4, y5, rfl, rfl⟩
    rw [List.length_map, List.take_length, hgl]
    have hg0 := r.pos
    have hg1 := r.lt
    refine ⟨_, rfl, by show 2 ≤ sizeLine; decide, fun tp ntp => ⟨tp, _, rfl, SqT.of upd_same, rfl, _, _, rfl, _, _, rfl, rfl, ?_⟩⟩
    have st0 : Same H' (upd H' tp (.tup [.int (gl ns : Nat), .int 0])) := same_upd ntp
    refine while_by (fun σ H'' => ∃ x m : Nat, σ = [some (.ref a), y1, some (.ref D), some (.int (gl ns : Nat)), y4, y5, some (.int x), some (.int m)] ∧ Same H' H'' ∧ 0 < x ∧ gl ns = 2 ^ m * x) (fun σ _ => match σ with | [_, _, _, _, _, _, some (.int x), _] => x.toNat | _ => 0) ⟨gl ns, 0, rfl, st0, hg0, by rw [Nat.pow_zero, Nat.one_mul]⟩ ?_ ?_
    · rintro σ H2 ⟨x, m, rfl, s2, hx0, hgx⟩
      refine ⟨_, rfl, (x : Int), 2, rfl, rfl, (by show (0 : Int) < 2; decide), rfl, _, rfl, ite2 (fun hev => ?_) (fun hod => ?_)⟩
      · have hev' : x % 2 = 0 := by
          have := V.int.inj (of_decide_eq_true hev)
          omega
        refine ⟨_, rfl, (x : Int), 2, rfl, rfl, ⟨by decide, by decide⟩, _, rfl, (m : Int), 1, rfl, rfl, by show 2 ≤ sizeLine; decide, fun t2 nt2 => ⟨t2, _, rfl, SqT.of upd_same, rfl, _, _, rfl, _, _, rfl, rfl, ⟨x / 2, m + 1, ?_, s2.trans (same_upd nt2), by omega, ?_⟩, ?_⟩⟩
        · rw [Int.natCast_ediv, Int.natCast_add]; rfl
        · rw [Nat.pow_succ, Nat.mul_assoc, show 2 * (x / 2) = x by omega]; exact hgx
        · show ((x : Int) / 2).toNat < (x : Int).toNat
          omega
      · have hod' : x % 2 = 1 := by
          have z : ¬ x % 2 = 0 := fun z => hod (decide_eq_true (by
            show V.int ((x : Int) % 2) = V.int 0
            rw [show ((x : Int) % 2) = 0 by omega]))
          omega
        have hm : m = v2 (gl ns) := (v2_unique hgx hod').symm
        have hxd : x = gl ns / 2 ^ v2 (gl ns) := by
          rw [← hm]
          exact (Nat.div_eq_of_eq_mul_right (Nat.two_pow_pos m) hgx).symm
        have hxi : (x : Int) = (gl ns : Int) / 2 ^ v2 (gl ns) := by
          rw [hxd, Int.natCast_ediv, Int.natCast_pow]; rfl
        have hxle : x ≤ gl ns := Nat.le_of_dvd hg0 ⟨2 ^ m, by rw [hgx]; exact Nat.mul_comm _ _⟩
        have hq0 : 0 < (gl ns : Int) / (x : Int) := by
          rw [← Int.natCast_ediv]
          have := Nat.div_pos hxle hx0
          omega
        have hq1 : (gl ns : Int) / (x : Int) ≤ gl ns := Int.ediv_le_self _ (by omega)
        have c1 : CDivW (gl ns : Int) (x : Int) := wide_div (b := 250) (by omega) (by omega) (by decide) (by decide)
        have S2 : Same H H2 := s1.trans s2
        have hD2' := s2 _ _ hD1
        refine ⟨.ref a, rfl, a, ns, rfl, SqT.of (S2 _ _ r.1), _, rfl, _, rfl, .ref D, rfl, D, rfl, ⟨_, SqL.of hD2'⟩, fun D2 nD2 => ?_⟩
        refine lc_list (K := K) (a := D) (xs := ps.map V.int) (fun i H3 => Same H2 H3 ∧ H3 D2 = some (.lst ((oddC (gl ns) (ps.take i)).map V.int))) ⟨same_upd nD2, upd_same⟩ ?_ ?_ ?_
        · rintro i H3 _ ⟨sm, _⟩
          exact SqL.of (sm _ _ hD2')
        · rintro i y H3 hy ⟨sm, hD3⟩
          rw [List.getElem?_map] at hy
          obtain ⟨n, hn, rfl⟩ := Option.map_eq_some_iff.mp hy
          have c2 : CDivW n ((gl ns : Int) / (x : Int)) := wide_div (b := 250) hq0 (by omega) (by decide) (by decide)
          refine ⟨rfl, _, rfl, _, rfl, _, rfl, _, _, rfl, rfl, c1, n, _, rfl, rfl, c2, _, 2, rfl, rfl, (by show (0 : Int) < 2; decide), rfl, _, rfl, ite2 (fun h1 => ?_) (fun h1 => ?_)⟩
          · have h1' : n / ((gl ns : Int) / ((gl ns : Int) / 2 ^ v2 (gl ns))) % 2 = 1 := by
              rw [← hxi]; exact V.int.inj (of_decide_eq_true h1)
            refine ⟨_, rfl, _, hD3, ?_, ?_, ?_⟩
            · rw [List.length_map]
              refine small1000 (Nat.le_trans (List.length_filter_le _ _) ?_)
              rw [List.length_take]
              omega
            · intro c o hc
              rw [upd_ne (ne_of_none hc nD2)]
              exact sm c o hc
            · rw [upd_same, List.take_add_one, hn]
              unfold oddC
              rw [List.filter_append, List.map_append]
              show _ = some (HO.lst (_ ++ List.map V.int (List.filter _ [n])))
              rw [List.filter_cons]
              rw [if_pos (decide_eq_true h1'), List.filter_nil]
              rfl
          · have h1' : ¬ n / ((gl ns : Int) / ((gl ns : Int) / 2 ^ v2 (gl ns))) % 2 = 1 := fun z => h1 (decide_eq_true (by
              rw [← hxi] at z
              show V.int (n / ((gl ns : Int) / (x : Int)) % 2) = V.int 1
              rw [z]))
            refine ⟨sm, ?_⟩
            rw [List.take_add_one, hn]
            unfold oddC at hD3 ⊢
            rw [List.filter_append]
            show _ = some (HO.lst (List.map V.int (_ ++ List.filter _ [n])))
            rw [List.filter_cons]
            rw [if_neg (by rw [decide_eq_false h1']; exact Bool.false_ne_true), List.filter_nil, List.append_nil]
            exact hD3
        · rintro H3 ⟨sm, hD3⟩
          rw [List.length_map, List.take_length] at hD3
          refine ⟨D2, _, rfl, .inl (SqL.of hD3), by show 4 ≤ sizeLine; decide, fun p np => ?_⟩
          refine q p _ (S2.trans (sm.trans (same_upd np))) ?_
          rw [upd_same, List.length_map, ← hps, oddC_eq r.2.2.2, hxi, hm]
    · rintro σ H'' Q1 Q2 hq ⟨x, e1, i, j, e2, e3, e4, e5, z, e6, h⟩
      exact ⟨x, e1, i, j, e2, e3, e4, e5, z, e6, hq _ _ h⟩
end
end K03

namespace K03
open PySem PySem.Spec PyProof.Rows L2 MG
theorem ddInts {H : Hp} : ∀ L : List Int, DdAll H (L.map V.int) (L.map PyData.int)
  | [] => .nil
  | i :: L => .cons (.int i) (ddInts L)
theorem dd_ints {H : Hp} : ∀ (L : List Int) {ds : List PyData}, DdAll H (L.map V.int) ds → ds = L.map PyData.int
  | [], _, h => by cases h; rfl
  | i :: L, _, h => by
    cases h with
    | cons a b =>
      cases a
      rw [dd_ints L b]
      rfl
theorem showL {H : Hp} {L : List Int} (h : ∀ i ∈ L, i.natAbs < 2 ^ 300) (hl : L.length ≤ 12) :
    (PyData.list (L.map PyData.int)).showable = true ∧ (PyData.list (L.map PyData.int)).depth ≤ 60 ∧ (PyData.list (L.map PyData.int)).shown.length ≤ sizeLine := by
  obtain ⟨ds, a1, b1, e1, f1⟩ := das (H := H) (n := 0) (c := 301) (xs := L.map V.int) (fun x hx => by
    obtain ⟨i, hi, rfl⟩ := List.mem_map.mp hx
    exact Da.int (h i hi))
  rw [dd_ints L a1] at b1 e1 f1
  refine ⟨b1, ?_, ?_⟩
  · show PyData.depthAll _ + 1 ≤ 60
    omega
  · have := listText_le (PyData.shownAll (L.map PyData.int))
    rw [List.length_map] at f1
    show (listText (PyData.shownAll (L.map PyData.int))).length ≤ sizeLine
    rw [sizeLine_eq]
    omega
abbrev sNumR : Stmt := topS 16
abbrev sTold : Stmt := topS 17
theorem scNumR : FnScope ["_law_number", "_law_half", "_law_often"] ["_law_number"] (defScope sNumR) := ⟨rfl, rfl, rfl, by decide +kernel, rfl, by decide +kernel, by decide +kernel⟩
theorem scTold : FnScope ["_law_here"] ["_law_here"] (defScope sTold) := ⟨rfl, rfl, rfl, by decide +kernel, rfl, by decide +kernel, by decide +kernel⟩
/-- unit, measure, twos, odd ones -/
def tl (ns : List Int) : List Int := [(gl ns : Nat), (gl ns : Nat) / 2 ^ v2 (gl ns), (v2 (gl ns) : Nat), ((fewT (v2 (gl ns)) ns).length : Nat)]
theorem nat_div_pow (g t : Nat) : ((g : Int) / 2 ^ t) = ((g / 2 ^ t : Nat) : Int) := by
  rw [Int.natCast_ediv, Int.natCast_pow]; rfl
section
variable {P : Program} {w : World} {K : PySem.W.Frag} {mg : Str → Option Value} {base : Heap}
def spNumR : Sp := fun vs H Q _ => ∃ n : Int, vs = [.int n] ∧ 0 < n ∧ n < 2 ^ 250 ∧ ∀ H', Same H H' → Q (.bl true) H'
theorem ok_numR {f fT fO : Addr} {fd fdT fdO : FuncData} {k : Nat} (sys : SysD base) (F : Fun K "_law_number_right" "_law_number_right" sNumR f fd)
    (FT : Fun K "twos_in" "twos_in" sTwosIn fT fdT) (bT : Binds K fdT ["n"] []) (kT : KB K fdT ["n"]) (gT : mg "twos_in" = some (.ref fT)) (GT : FnOk P w K mg base CX0 (k + 1) fT fdT ["n"] spTwosIn)
    (FO : Fun K "odd_part" "odd_part" sOddPart fO fdO) (bO : Binds K fdO ["n"] []) (kO : KB K fdO ["n"]) (gO : mg "odd_part" = some (.ref fO)) (GO : FnOk P w K mg base CX0 (k + 2) fO fdO ["n"] spOddPart)
    (mr : mg "repr" = none) : FnG P w K mg base (k + 3) f fd ["_law_number"] spNumR := by
  refine okG F scNumR (fun vs H Q E h => ?_) (fun cdv A outer s H vs Q E gd hr h => ?_)
  · obtain ⟨n, rfl, _⟩ := h
    rfl
  · obtain ⟨n, rfl, n0, n1, q⟩ := h
    have hr1 := hr.mono (show k + 1 ≤ k + 2 by omega)
    have cr : ∀ {X : Cx}, X = (cxOf CX0 P w K mg base ["_law_number", "_law_half", "_law_often"] "_law_number_right" (defScope sNumR) f cdv A outer s H E).nox →
        CallR X (.builtin "repr") (fun xs H Q => ∃ x d, xs = [x] ∧ Dd H x d ∧ d.showable = true ∧ d.depth ≤ 60 ∧ d.shown.length ≤ sizeLine ∧ Q (.str d.shown) H) := by
      rintro X rfl
      exact call_repr gd (by have := hr.un; show (A.deeper _).units + 100 < cLine; omega) sys
    have R := cr rfl
    refine ⟨_, pss_cons (ps_par (i := 1) (j := 2) rfl scNumR.nd rfl rfl (by decide) rfl rfl (pa_cons (pv 0) (pa_cons pe_int pa_nil)) (by rfl))
      (pss_cons (ps_while PassesOwn.never (pt_cmpR op_eq (pe_op op_mod (pv 1) pe_int) pe_int (nomark _))
        (pss_one (ps_par (i := 1) (j := 2) rfl scNumR.nd rfl rfl (by decide) rfl rfl (pa_cons (pe_op op_fdiv (pv 1) pe_int) (pa_cons (pe_op op_add (pv 2) pe_int) pa_nil)) (by rfl))))
      (pss_cons (ps_if (pt_cmpR op_ne (pe_callB R (by rfl) mr (by decide +kernel) (pa_cons (pe_lst
            (pa_cons (pe_call GT hr1 (by rfl) gT FT.kp bT .nil pass0 (pa_cons (pv 0) pa_nil)) (pa_cons (pe_call GO hr (by rfl) gO FO.kp bO .nil pass0 (pa_cons (pv 0) pa_nil))
            (pa_cons (pe_callN (E := E0) GT hr1 (by rfl) gT FT.kp kT (pk_cons (pv 0) pk_nil)) (pa_cons (pe_callN (E := E0) GO hr (by rfl) gO FO.kp kO (pk_cons (pv 0) pk_nil)) pa_nil))))) pa_nil))
          (pe_callB R (by rfl) mr (by decide +kernel) (pa_cons (pe_op op_rep (pe_lst (pa_cons (pv 2) (pa_cons (pv 1) pa_nil))) pe_int) pa_nil)) (nomark _))
        (pss_one (ps_ret pe_bl)) pss_nil)
      (pss_one (ps_ret pe_bl)))), ?_⟩
    refine ⟨_, rfl, _, _, rfl, ?_⟩
    have hn : (n.toNat : Int) = n := Int.toNat_of_nonneg (by omega)
    refine while_by (fun σ H'' => ∃ x m : Nat, σ = [some (.int n), some (.int x), some (.int m)] ∧ H'' = H ∧ 0 < x ∧ n.toNat = 2 ^ m * x) (fun σ _ => match σ with | [_, some (.int x), _] => x.toNat | _ => 0) ⟨n.toNat, 0, by rw [hn]; rfl, rfl, by omega, by rw [Nat.pow_zero, Nat.one_mul]⟩ ?_ ?_
    · rintro σ H2 ⟨x, m, rfl, rfl, hx0, hgx⟩
      refine ⟨_, rfl, (x : Int), 2, rfl, rfl, (by show (0 : Int) < 2; decide), rfl, _, rfl, ite2 (fun hev => ?_) (fun hod => ?_)⟩
      · have hev' : x % 2 = 0 := by
          have := V.int.inj (of_decide_eq_true hev)
          omega
        refine ⟨_, rfl, (x : Int), 2, rfl, rfl, ⟨by decide, by decide⟩, _, rfl, (m : Int), 1, rfl, rfl, _, _, rfl, ⟨x / 2, m + 1, ?_, rfl, by omega, ?_⟩, ?_⟩
        · rw [Int.natCast_ediv, Int.natCast_add]; rfl
        · rw [Nat.pow_succ, Nat.mul_assoc, show 2 * (x / 2) = x by omega]; exact hgx
        · show ((x : Int) / 2).toNat < (x : Int).toNat
          omega
      · have hod' : x % 2 = 1 := by
          have z : ¬ x % 2 = 0 := fun z => hod (decide_eq_true (by
            show V.int ((x : Int) % 2) = V.int 0
            rw [show ((x : Int) % 2) = 0 by omega]))
          omega
        have hm : m = v2 n.toNat := (v2_unique hgx hod').symm
        have hxi : (x : Int) = n / 2 ^ v2 n.toNat := by
          rw [← hm]
          have : n.toNat / 2 ^ m = x := Nat.div_eq_of_eq_mul_right (Nat.two_pow_pos m) hgx
          rw [← this, ← nat_div_pow, hn]
        have hxle : x ≤ n.toNat := Nat.le_of_dvd (by omega) ⟨2 ^ m, by rw [hgx]; exact Nat.mul_comm _ _⟩
        have hmle : m < 250 := by rw [hm]; exact v2_lt (by omega) (by omega)
        obtain ⟨w1, w2, w3⟩ := showL (H := H2) (L := [(m : Int), (x : Int), (m : Int), (x : Int)]) (by
          intro i hi
          have hb : (x : Int).natAbs < 2 ^ 300 := Nat.lt_trans (show (x : Int).natAbs < 2 ^ 250 by omega) (by decide)
          have hb2 : (m : Int).natAbs < 2 ^ 300 := Nat.lt_trans (show (m : Int).natAbs < 2 ^ 10 by omega) (by decide)
          simp only [List.mem_cons, List.not_mem_nil, or_false] at hi
          rcases hi with rfl | rfl | rfl | rfl <;> assumption) (by show 4 ≤ 12; decide)
        refine ⟨_, rfl, n, rfl, n0, _, rfl, n, rfl, n0, _, rfl, n, rfl, n0, _, rfl, n, rfl, n0, by show 4 ≤ sizeLine; decide, fun p1 np1 => ?_⟩
        rw [← hxi, ← hm]
        refine ⟨.ref p1, .list ([(m : Int), (x : Int), (m : Int), (x : Int)].map PyData.int), rfl, .lst upd_same (ddInts [(m : Int), (x : Int), (m : Int), (x : Int)]), w1, w2, w3, _, rfl, _, rfl, by show 2 ≤ sizeLine; decide, fun p2 np2 => ?_⟩
        refine ⟨p2, 2, _, rfl, rfl, upd_same, by decide, by decide, by show 2 * 2 ≤ sizeLine; decide, fun p3 np3 => ?_⟩
        refine ⟨.ref p3, .list ([(m : Int), (x : Int), (m : Int), (x : Int)].map PyData.int), rfl, .lst upd_same (ddInts [(m : Int), (x : Int), (m : Int), (x : Int)]), w1, w2, w3, rfl, _, rfl, iteNS rfl ?_⟩
        exact q _ ((same_upd np1).trans ((same_upd np2).trans (same_upd np3)))
    · rintro σ H'' Q1 Q2 hq ⟨x, e1, i, j, e2, e3, e4, e5, z, e6, h⟩
      exact ⟨x, e1, i, j, e2, e3, e4, e5, z, e6, hq _ _ h⟩

def spTold : Sp := fun vs H Q _ => ∃ a ns, vs = [.ref a] ∧ Row H a ns ∧ ∀ p H', H p = none → Same H H' → H' p = some (.lst ((tl ns).map V.int)) → Q (.ref p) H'
theorem ok_told {f fU fM fS fO : Addr} {fd fdU fdM fdS fdO : FuncData} {k : Nat} (F : Fun K "_law_told" "_law_told" sTold f fd)
    (FU : Fun K "unit" "unit" sUnit fU fdU) (bU : Binds K fdU ["row"] []) (gU : mg "unit" = some (.ref fU)) (GU : FnOk P w K mg base CX0 (k + 2) fU fdU ["row"] spUnit)
    (FM : Fun K "measure" "measure" sMeasure fM fdM) (bM : Binds K fdM ["row"] []) (gM : mg "measure" = some (.ref fM)) (GM : FnOk P w K mg base CX0 (k + 3) fM fdM ["row"] spMeasure)
    (FS : Fun K "twos" "twos" sTwos fS fdS) (bS : Binds K fdS ["row"] []) (gS : mg "twos" = some (.ref fS)) (GS : FnOk P w K mg base CX0 (k + 3) fS fdS ["row"] spTwos)
    (FO : Fun K "odd_ones" "odd_ones" sOddOnes fO fdO) (bO : Binds K fdO ["row"] []) (gO : mg "odd_ones" = some (.ref fO)) (GO : FnOk P w K mg base CX0 (k + 4) fO fdO ["row"] spOddOnes) :
    FnOk P w K mg base CX0 (k + 5) f fd ["_law_here"] spTold := by
  refine F.ok scTold (fun vs H Q E h => ?_) (fun cdv A outer s H vs Q E hr h => ?_)
  · obtain ⟨a, ns, rfl, _⟩ := h
    rfl
  · obtain ⟨a, ns, rfl, r, q⟩ := h
    refine ⟨_, pss_one (ps_ret (pe_lst (pa_cons (pe_call GU (hr.mono (by omega)) (by rfl) gU FU.kp bU .nil pass0 (pa_cons (pv 0) pa_nil)) (pa_cons (pe_call GM (hr.mono (by omega)) (by rfl) gM FM.kp bM .nil pass0 (pa_cons (pv 0) pa_nil))
      (pa_cons (pe_call GS (hr.mono (by omega)) (by rfl) gS FS.kp bS .nil pass0 (pa_cons (pv 0) pa_nil)) (pa_cons (pe_call GO hr (by rfl) gO FO.kp bO .nil pass0 (pa_cons (pv 0) pa_nil)) pa_nil)))))), ?_⟩
    refine ⟨_, rfl, a, ns, rfl, r, _, rfl, a, ns, rfl, r, _, rfl, a, ns, rfl, r, _, rfl, a, ns, rfl, r, fun H' sm => ⟨by show 4 ≤ sizeLine; decide, fun p np => ?_⟩⟩
    exact q p _ (sm.free np) (sm.trans (same_upd np)) upd_same
end
end K03

namespace K03
open PySem PySem.Spec PyProof.Rows L2 MG
theorem v2_mul {a b : Nat} (ha : 0 < a) (hb : 0 < b) : v2 (a * b) = v2 a + v2 b := by
  refine v2_unique (m := (a / 2 ^ v2 a) * (b / 2 ^ v2 b)) ?_ ?_
  · have h1 := v2_split ha
    have h2 := v2_split hb
    rw [Nat.pow_add]
    generalize a / 2 ^ v2 a = x at h1 ⊢
    generalize b / 2 ^ v2 b = y at h2 ⊢
    generalize 2 ^ v2 a = c at h1 ⊢
    generalize 2 ^ v2 b = d at h2 ⊢
    rw [h1, h2, Nat.mul_assoc, Nat.mul_assoc, Nat.mul_left_comm x d y]
  · rw [Nat.mul_mod, odd_rest ha, odd_rest hb]
theorem few_scale {c : Int} (hc : 0 < c) {ns : List Int} (hn : ∀ n ∈ ns, 0 ≤ n) (hp : ∃ n ∈ ns, 0 < n) :
    (fewT (v2 (gl (ns.map fun n => c * n))) (ns.map fun n => c * n)).length = (fewT (v2 (gl ns)) ns).length := by
  obtain ⟨n0, hn0, h0⟩ := hp
  have hg := gl_pos hn0 h0
  rw [gl_mul c (by omega) hn, v2_mul (by omega) hg]
  unfold fewT
  rw [List.filter_map, List.length_map]
  congr 1
  refine List.filter_congr fun n hn' => ?_
  have h0 := hn n hn'
  show (decide (c * n > 0) && decide (v2 (c * n).toNat ≤ _)) = _
  by_cases hpos : n > 0
  · rw [decide_eq_true hpos, decide_eq_true (show c * n > 0 from Int.mul_pos hc hpos), Int.toNat_mul (by omega) (by omega), v2_mul (by omega) (by omega)]
    congr 1
    by_cases z : v2 n.toNat ≤ v2 (gl ns)
    · rw [decide_eq_true z, decide_eq_true (by omega)]
    · rw [decide_eq_false z, decide_eq_false (by omega)]
  · have : n = 0 := by omega
    subst this
    rw [Int.mul_zero]
    rfl
theorem tl_perm {ns ms : List Int} {k : Nat} (h : ms.Perm (ns ++ List.replicate k 0)) : tl ms = tl ns := by
  have e1 : gl ms = gl ns := by rw [gl_perm h, gl_append, gl_zeros, Nat.gcd_zero_right]
  have e2 : (fewT (v2 (gl ms)) ms).length = (fewT (v2 (gl ns)) ns).length := by
    rw [e1, fewT_perm h]
    show (fewT _ (ns ++ List.replicate k 0)).length = _
    have : fewT (v2 (gl ns)) (ns ++ List.replicate k 0) = fewT (v2 (gl ns)) ns ++ fewT (v2 (gl ns)) (List.replicate k 0) := List.filter_append ..
    rw [this, fewT_zeros, List.append_nil]
  unfold tl
  rw [e2, e1]
theorem tl_small {H : Hp} {a : Addr} {ns : List Int} (r : Row H a ns) : ∀ i ∈ tl ns, i.natAbs < 2 ^ 300 := by
  have h1 := r.lt
  have h0 := r.pos
  have h2 : v2 (gl ns) < 250 := v2_lt h0 (by omega)
  have h3 : (fewT (v2 (gl ns)) ns).length ≤ 40 := Nat.le_trans (List.length_filter_le _ _) r.2.2.1
  have h4 : gl ns / 2 ^ v2 (gl ns) ≤ gl ns := Nat.div_le_self _ _
  intro i hi
  have big : (2 : Nat) ^ 250 < 2 ^ 300 := by decide
  unfold tl at hi
  rw [nat_div_pow] at hi
  simp only [List.mem_cons, List.not_mem_nil, or_false] at hi
  rcases hi with rfl | rfl | rfl | rfl
  · exact Nat.lt_trans (show ((gl ns : Nat) : Int).natAbs < 2 ^ 250 by omega) big
  · refine Nat.lt_trans (show ((gl ns / 2 ^ v2 (gl ns) : Nat) : Int).natAbs < 2 ^ 250 from ?_) big
    rw [Int.natAbs_natCast]
    refine Nat.lt_of_le_of_lt h4 ?_
    omega
  · exact Nat.lt_trans (show ((v2 (gl ns) : Nat) : Int).natAbs < 2 ^ 10 by omega) (by decide)
  · exact Nat.lt_trans (show (((fewT (v2 (gl ns)) ns).length : Nat) : Int).natAbs < 2 ^ 10 by omega) (by decide)

abbrev sRight : Stmt := topS 18
abbrev nRight : List Str := ["_law_box_here", "_law_here", "_law_total", "_law_odd", "_law_often", "_law_many", "_law_due", "_law_turn", "_law_scale", "_law_some", "_law_amount"]
theorem scRight : FnScope ["_law_box_here", "_law_here", "_law_total", "_law_odd", "_law_often", "_law_many", "_law_due", "_law_turn", "_law_scale", "_law_some", "_law_amount"] ["_law_box_here", "_law_here"] (defScope sRight) := ⟨rfl, rfl, rfl, by decide +kernel, rfl, by decide +kernel, by decide +kernel⟩
section
variable {P : Program} {w : World} {K : PySem.W.Frag} {mg : Str → Option Value} {base : Heap}
def spRight : Sp := fun vs H Q _ => ∃ b a ns n, vs = [.ref b, .ref a] ∧ Box H b n ∧ n ≤ 800000 ∧ Row H a ns ∧ (∀ x ∈ ns, x ≤ 10 ^ 41) ∧ ns.length ≤ 20 ∧ ∀ H', Box H' b (n + 100) → SX b H H' → Q (.bl true) H'
theorem ok_right {f fT fOf fP fSt fTo fU fM fS fO : Addr} {fd fdT fdOf fdP fdSt fdTo fdU fdM fdS fdO : FuncData} {k : Nat} (sys : SysD base) (F : Fun K "_law_right" "_law_right" sRight f fd)
    (FT : Fun K "_law_take" "_law_take" sTake fT fdT) (bT : Binds K fdT ["_law_box_here", "_law_many"] []) (gT : mg "_law_take" = some (.ref fT))
    (FOf : Fun K "_law_of" "_law_of" sOf fOf fdOf) (bOf : Binds K fdOf ["_law_box_here", "_law_some"] []) (gOf : mg "_law_of" = some (.ref fOf))
    (FP : Fun K "_law_places" "_law_places" sPlaces fP fdP) (bP : Binds K fdP ["_law_box_here", "_law_amounts", "_law_nothing"] []) (gP : mg "_law_places" = some (.ref fP)) (GP : FnOk P w K mg base CX0 (k + 2) fP fdP ["_law_box_here", "_law_amounts", "_law_nothing"] spPlaces)
    (FSt : Fun K "_law_stays" "_law_stays" sStays fSt fdSt) (bSt : Binds K fdSt ["_law_here"] []) (gSt : mg "_law_stays" = some (.ref fSt)) (GSt : FnOk P w K mg base CX0 (k + 1) fSt fdSt ["_law_here"] spStays)
    (FTo : Fun K "_law_told" "_law_told" sTold fTo fdTo) (bTo : Binds K fdTo ["_law_here"] []) (gTo : mg "_law_told" = some (.ref fTo)) (GTo : FnOk P w K mg base CX0 (k + 5) fTo fdTo ["_law_here"] spTold)
    (FU : Fun K "unit" "unit" sUnit fU fdU) (kU : KB K fdU ["row"]) (gU : mg "unit" = some (.ref fU)) (GU : FnOk P w K mg base CX0 (k + 2) fU fdU ["row"] spUnit)
    (FM : Fun K "measure" "measure" sMeasure fM fdM) (kM : KB K fdM ["row"]) (gM : mg "measure" = some (.ref fM)) (GM : FnOk P w K mg base CX0 (k + 3) fM fdM ["row"] spMeasure)
    (FS : Fun K "twos" "twos" sTwos fS fdS) (kS : KB K fdS ["row"]) (gS : mg "twos" = some (.ref fS)) (GS : FnOk P w K mg base CX0 (k + 3) fS fdS ["row"] spTwos)
    (FO : Fun K "odd_ones" "odd_ones" sOddOnes fO fdO) (kO : KB K fdO ["row"]) (gO : mg "odd_ones" = some (.ref fO)) (GO : FnOk P w K mg base CX0 (k + 4) fO fdO ["row"] spOddOnes)
    (mr : mg "repr" = none) (mR : mg "range" = none) (mT : mg "tuple" = none) (ml : mg "len" = none) : FnG P w K mg base (k + 6) f fd ["_law_box_here", "_law_here"] spRight := by
  have GT : FnOk P w K mg base CX0 (k + 1) fT fdT ["_law_box_here", "_law_many"] spTake := ok_take FT
  have GOf : FnOk P w K mg base CX0 (k + 2) fOf fdOf ["_law_box_here", "_law_some"] spOf := ok_of FOf FT bT gT ml
  refine okG F scRight (fun vs H Q E h => ?_) (fun cdv A outer s H vs Q E gd hr h => ?_)
  · obtain ⟨b, a, ns, n, rfl, _⟩ := h
    rfl
  · obtain ⟨b, a, ns, n, rfl, hB, hn, r, hx, hl, q⟩ := h
    have hr1 := hr.mono (show k + 1 ≤ k + 5 by omega)
    have hr2 := hr.mono (show k + 2 ≤ k + 5 by omega)
    have hr3 := hr.mono (show k + 3 ≤ k + 5 by omega)
    have hr4 := hr.mono (show k + 4 ≤ k + 5 by omega)
    have cr : ∀ {X : Cx}, X = (cxOf CX0 P w K mg base nRight "_law_right" (defScope sRight) f cdv A outer s H E).nox →
        CallR X (.builtin "repr") (fun xs H Q => ∃ x d, xs = [x] ∧ Dd H x d ∧ d.showable = true ∧ d.depth ≤ 60 ∧ d.shown.length ≤ sizeLine ∧ Q (.str d.shown) H) := by
      rintro X rfl
      exact call_repr gd (by have := hr.un; show (A.deeper _).units + 100 < cLine; omega) sys
    have R := cr rfl
    refine ⟨_, pss_cons (ps_asg (pe_call GSt hr1 (by rfl) gSt FSt.kp bSt .nil pass0 (pa_cons (pv 1) pa_nil)) (pg_tup rfl (pgs_cons (pg_name (i := 2) scRight.nd rfl (.inl rfl)) (pgs_cons (pg_name (i := 3) scRight.nd rfl (.inl rfl)) (pgs_cons (pg_name (i := 4) scRight.nd rfl (.inl rfl)) (pgs_cons (pg_name (i := 5) scRight.nd rfl (.inl rfl)) pgs_nil))))))
      (pss_cons (ps_set (i := 6) scRight.nd rfl (.inl rfl) (pe_lst (pa_cons (pv 3) (pa_cons (pv 3) (pa_cons (pv 4) (pa_cons (pv 5) pa_nil))))))
      (pss_cons (ps_for PassesOwn.never rfl (pi_range1 rfl mR (pa_cons (pv 4) pa_nil)) (pg_name (i := 7) scRight.nd rfl (.inl rfl))
        (pss_one (ps_asg (pe_op op_mul pe_int (pe_ix ix_list (pv 6) pe_int (fun _ _ => rfl))) (pg_sub (pv 6) pe_int set_list))))
      (pss_cons (ps_if (pt_cmpR op_ne (pe_callB R (by rfl) mr (by decide +kernel) (pa_cons (pe_call GTo hr (by rfl) gTo FTo.kp bTo .nil pass0 (pa_cons (pv 1) pa_nil)) pa_nil)) (pe_callB R (by rfl) mr (by decide +kernel) (pa_cons (pv 6) pa_nil)) (nomark _)) (pss_one (ps_ret pe_bl)) pss_nil)
      (pss_cons (ps_if (pt_cmpR op_ne (pe_callB R (by rfl) mr (by decide +kernel) (pa_cons (pe_lst
            (pa_cons (pe_callN (E := E0) GU hr2 (by rfl) gU FU.kp kU (pk_cons (pv 1) pk_nil)) (pa_cons (pe_callN (E := E0) GM hr3 (by rfl) gM FM.kp kM (pk_cons (pv 1) pk_nil))
            (pa_cons (pe_callN (E := E0) GS hr3 (by rfl) gS FS.kp kS (pk_cons (pv 1) pk_nil)) (pa_cons (pe_callN (E := E0) GO hr4 (by rfl) gO FO.kp kO (pk_cons (pv 1) pk_nil)) pa_nil))))) pa_nil))
          (pe_callB R (by rfl) mr (by decide +kernel) (pa_cons (pv 6) pa_nil)) (nomark _)) (pss_one (ps_ret pe_bl)) pss_nil)
      (pss_cons (ps_if (pt_cmpR (op_neD hr.units) (pe_call GTo hr (by rfl) gTo FTo.kp bTo .nil pass0 (pa_cons (pe_call GP hr2 (by rfl) gP FP.kp bP .nil pass0 (pa_cons (pv 0) (pa_cons (pv 1) (pa_cons
            (pe_call GT hr1 (by rfl) gT FT.kp bT .nil pass0 (pa_cons (pv 0) (pa_cons pe_int pa_nil))) pa_nil)))) pa_nil)) (pv 6) (nomark _)) (pss_one (ps_ret pe_bl)) pss_nil)
      (pss_cons (ps_set (i := 8) scRight.nd rfl (.inr rfl) (pe_call GOf hr2 (by rfl) gOf FOf.kp bOf .nil pass0 (pa_cons (pv 0) (pa_cons (pe_lst (pa_cons pe_int (pa_cons pe_int (pa_cons pe_int (pa_cons pe_int (pa_cons pe_int (pa_cons
            (pe_op op_add pe_int (pe_call GT hr1 (by rfl) gT FT.kp bT .nil pass0 (pa_cons (pv 0) (pa_cons pe_int pa_nil)))) pa_nil))))))) pa_nil))))
      (pss_cons (ps_set (i := 9) scRight.nd rfl (.inl rfl) (pe_callTy call_tuple_of (by rfl) mT (by decide +kernel) (pa_cons
            (pe_lc (own := [("_law_amount", 10)]) (g := gName 10) (tt := tYes) rfl scRight.nd (pi_tup (pv 1)) (blkOk_by (N := nRight) (sc := defScope sRight) (by decide +kernel))
              (fun _ _ _ _ _ => pg_name (i := 10) scRight.nd rfl (Or.inl rfl)) (fun _ _ _ _ _ => pts_nil) (fun _ _ _ _ _ => pe_op op_mul (pv 8) (pv 10))) pa_nil)))
      (pss_one (ps_ret (pe_and (pe_cmpR op_eq (pe_ix ix_list (pe_call GTo hr (by rfl) gTo FTo.kp bTo .nil pass0 (pa_cons (pv 9) pa_nil)) pe_int (fun _ _ => rfl)) (pe_op op_mul (pv 8) (pe_ix ix_list (pv 6) pe_int (fun _ _ => rfl))) (nomark _))
            (pe_one (pe_cmpR op_eq (pe_ix ix_list (pe_call GTo hr (by rfl) gTo FTo.kp bTo .nil pass0 (pa_cons (pv 9) pa_nil)) pe_int (fun _ _ => rfl)) (pv 5) (nomark _))))))))))))), ?_⟩
    have hg0 := r.pos
    have hg1 := r.lt
    have ht : v2 (gl ns) < 250 := v2_lt hg0 (by omega)
    have hodd0 : (gl ns : Int) / 2 ^ v2 (gl ns) * 2 ^ v2 (gl ns) = gl ns := by
      rw [nat_div_pow]
      have h3 := v2_split hg0
      have h4 : ((2 ^ v2 (gl ns) * (gl ns / 2 ^ v2 (gl ns)) : Nat) : Int) = gl ns := by rw [← h3]
      rw [Int.natCast_mul, Int.natCast_pow, Int.mul_comm] at h4
      exact h4
    obtain ⟨bo, bz⟩ := hB.get
    refine ⟨.ref a, rfl, a, ns, rfl, r, fun p1 H1 s1 e1 => ⟨p1, _, rfl, SqT.of e1, rfl, _, _, rfl, _, _, rfl, _, _, rfl, _, _, rfl, rfl, ?_⟩⟩
    generalize hod : (gl ns : Int) / 2 ^ v2 (gl ns) = od at hodd0 e1 ⊢
    refine ⟨_, rfl, _, rfl, _, rfl, _, rfl, by show 4 ≤ sizeLine; decide, fun du ndu => ?_⟩
    have fdu : H du = none := s1.free ndu
    have nbd : b ≠ du := ne_of_none bz fdu
    refine ⟨_, rfl, (v2 (gl ns) : Int), rfl, by omega, by omega, ?_⟩
    generalize hcn : ((fewT (v2 (gl ns)) ns).length : Nat) = cn at e1 ⊢
    refine for_range (lo := 0) (n := (v2 (gl ns) : Int).toNat) (fun i σ H' => ∃ y7, σ = [some (.ref b), some (.ref a), some (.int ns.sum), some (.int od), some (.int (v2 (gl ns) : Nat)), some (.int cn), some (.ref du), y7, none, none, none] ∧ Same H H' ∧ H' du = some (.lst [.int (od * 2 ^ i), .int od, .int (v2 (gl ns) : Nat), .int cn])) ?_ ?_ ?_
    · exact ⟨none, rfl, s1.trans (same_upd ndu), by rw [upd_same, Int.pow_zero, Int.mul_one]⟩
    · rintro i σ H' hi ⟨y7, rfl, sm, hdu⟩
      refine ⟨.ref du, rfl, du, _, 0, .int (od * 2 ^ i), rfl, rfl, SqL.of hdu, atI_nat (j := 0) rfl, 2, _, rfl, rfl, .inl ⟨by decide, by decide⟩, .ref du, rfl, du, _, 0, 0, rfl, rfl, hdu, rfl, _, rfl, ?_, ?_⟩
      · intro x o hx'
        rw [upd_ne (ne_of_none hx' fdu)]
        exact sm x o hx'
      · rw [upd_same, show od * 2 ^ (i + 1) = 2 * (od * 2 ^ i) by rw [Int.pow_succ, ← Int.mul_assoc, Int.mul_comm]]
        rfl
    rintro σ H2 ⟨y7, rfl, s2, hdu⟩
    rw [Int.toNat_natCast, hodd0] at hdu
    have etl : tl ns = [(gl ns : Int), od, (v2 (gl ns) : Nat), (cn : Nat)] := by unfold tl; rw [hod, hcn]
    have hdu2 : H2 du = some (.lst ((tl ns).map V.int)) := by rw [etl]; exact hdu
    obtain ⟨w1, w2, w3⟩ := showL (H := H) (L := tl ns) (tl_small r) (by show 4 ≤ 12; decide)
    -- told, by places
    refine ⟨.ref a, rfl, a, ns, rfl, r.same s2, fun p3 H3 np3 s3 e3 => ?_⟩
    refine ⟨.ref p3, _, rfl, .lst e3 (ddInts _), w1, w2, w3, _, rfl, .ref du, _, rfl, .lst (s3 _ _ hdu2) (ddInts _), w1, w2, w3, rfl, _, rfl, iteNS rfl ?_⟩
    have S3 := s2.trans s3
    have hdu3 := s3 _ _ hdu2
    -- by names
    refine ⟨_, rfl, a, ns, rfl, r.same S3, _, rfl, a, ns, rfl, r.same S3, _, rfl, a, ns, rfl, r.same S3, _, rfl, a, ns, rfl, r.same S3, fun H4 s4 => ⟨by show 4 ≤ sizeLine; decide, fun p4 np4 => ?_⟩⟩
    have e4 : upd H4 p4 (.lst ((tl ns).map V.int)) p4 = some (.lst ((tl ns).map V.int)) := upd_same
    have s5 : Same H4 (upd H4 p4 (.lst ((tl ns).map V.int))) := same_upd np4
    refine ⟨.ref p4, _, rfl, .lst e4 (ddInts _), w1, w2, w3, _, rfl, .ref du, _, rfl, .lst (s5 _ _ (s4 _ _ hdu3)) (ddInts _), w1, w2, w3, rfl, _, rfl, iteNS rfl ?_⟩
    have S5 := S3.trans (s4.trans s5)
    have hdu5 := s5 _ _ (s4 _ _ hdu3)
    have hB5 : Box (upd H4 p4 (HO.lst ((tl ns).map V.int))) b n := hB.at (by rw [S5 _ _ bz, bz])
    have nab : a ≠ b := fun z => by
      obtain ⟨_, _, _, z2, _⟩ := hB
      have := r.1
      rw [z, z2] at this
      cases this
    -- the places turned about
    refine ⟨.ref b, rfl, .ref a, rfl, .ref b, rfl, b, 3, n, rfl, hB5, by omega, by decide, by decide, fun r3 H6 r30 r31 hB6 k6 => ?_⟩
    have x6 : SX b H H6 := (SX.of_same S5).trans (.of_eq k6)
    have hdu6 : H6 du = some (.lst ((tl ns).map V.int)) := by rw [k6 du nbd.symm]; exact hdu5
    have ra6 : Row H6 a ns := ⟨x6 _ _ nab r.1, r.2⟩
    refine ⟨b, a, ns, r3, n + 1, rfl, hB6, by omega, .inr ra6.1, r30, by omega, by omega, fun p7 H7 ms np7 pm hB7 x7 e7 => ?_⟩
    have X7 : SX b H H7 := x6.trans x7
    have hdu7 : H7 du = some (.lst ((tl ns).map V.int)) := x7 _ _ nbd.symm hdu6
    have rm : Row H7 p7 ms := by
      refine ⟨e7, fun y hy => ?_, ?_, ?_⟩
      · rcases List.mem_append.mp (pm.mem_iff.mp hy) with h | h
        · exact r.2.1 y h
        · rw [List.eq_of_mem_replicate h]; exact ⟨by omega, by decide⟩
      · have := pm.length_eq
        rw [List.length_append, List.length_replicate] at this
        omega
      · obtain ⟨y, hy, h0⟩ := r.2.2.2
        exact ⟨y, pm.mem_iff.mpr (List.mem_append_left _ hy), h0⟩
    refine ⟨p7, ms, rfl, rm, fun p8 H8 np8 s8 e8 => ?_⟩
    rw [tl_perm pm] at e8
    refine ⟨.ref du, rfl, .list ((tl ns).map PyData.int), .list ((tl ns).map PyData.int), .lst (SqL.of e8) (dpInts _), .lst (SqL.of (s8 _ _ hdu7)) (dpInts _), shaped_ints _, shaped_ints _, _, rfl, ?_⟩
    rw [SeqAt.eqv_refl _ (SeqAt.canLay_of_shaped (shaped_ints (tl ns)))]
    refine iteF ?_
    obtain ⟨bo7, bz7⟩ := hB7.get
    have hB8 : Box H8 b (n + 1 + 45) := hB7.at (by rw [s8 _ _ bz7, bz7])
    have X8 : SX b H H8 := X7.trans (.of_same s8)
    have hdu8 := s8 _ _ hdu7
    -- many times as much
    refine ⟨.ref b, rfl, .ref b, rfl, b, 100, n + 1 + 45, rfl, hB8, by omega, by decide, by decide, fun r9 H9 r90 r91 hB9 k9 => ⟨1, r9, rfl, rfl, by show 6 ≤ sizeLine; decide, fun l nl => ?_⟩⟩
    obtain ⟨bo9, bz9⟩ := hB9.get
    refine ⟨b, l, n + 1 + 45 + 1, _, rfl, hB9.new nl, by omega, upd_same, ne_of_none bz9 nl, by show 1 ≤ 6; decide, by show 6 ≤ 1000; decide, fun sc H10 hsc hB10 k10 => ?_⟩
    obtain ⟨scale, rfl, sc1, sc2⟩ : ∃ v : Int, sc = .int v ∧ 1 ≤ v ∧ v ≤ 100 := by
      simp only [List.mem_cons, List.not_mem_nil, or_false] at hsc
      rcases hsc with h | h | h | h | h | h <;> exact ⟨_, h, by omega, by omega⟩
    have X10 : SX b H H10 := ((X8.trans (.of_eq k9)).new nl).trans (.of_eq k10)
    have hdu10 : H10 du = some (.lst ((tl ns).map V.int)) := by
      rw [k10 du nbd.symm]
      refine same_upd nl _ _ ?_
      rw [k9 du nbd.symm]
      exact hdu8
    have ra10 : H10 a = some (.tup (ns.map V.int)) := X10 _ _ nab r.1
    refine ⟨.ref a, rfl, a, rfl, ⟨_, SqT.of ra10⟩, fun D nD => ?_⟩
    refine lc_tup (K := K) (a := a) (xs := ns.map V.int) (fun i H' => Same H10 H' ∧ H' D = some (.lst (((ns.take i).map fun x => scale * x).map V.int))) ⟨same_upd nD, upd_same⟩ ?_ ?_ ?_
    · rintro i H' _ ⟨sm, _⟩
      exact SqT.of (sm _ _ ra10)
    · rintro i x H' hx' ⟨sm, hD⟩
      rw [List.getElem?_map] at hx'
      obtain ⟨v, hv, rfl⟩ := Option.map_eq_some_iff.mp hx'
      refine ⟨rfl, _, rfl, _, rfl, scale, v, rfl, rfl, .inl ⟨by omega, by omega⟩, _, hD, ?_, ?_, ?_⟩
      · rw [List.length_map, List.length_map, List.length_take]
        exact small1000 (by omega)
      · intro c o hc
        rw [upd_ne (ne_of_none hc nD)]
        exact sm c o hc
      · rw [upd_same, List.take_add_one, hv, List.map_append, List.map_append]
        rfl
    rintro H11 ⟨s11, hD⟩
    rw [List.length_map, List.take_length] at hD
    refine ⟨D, _, rfl, .inl ⟨SqL.of hD, fun p12 np12 => ?_⟩⟩
    have s12 : Same H10 (upd H11 p12 (.tup ((ns.map fun x => scale * x).map V.int))) := s11.trans (same_upd np12)
    have e12 : upd H11 p12 (.tup ((ns.map fun x => scale * x).map V.int)) p12 = some (.tup ((ns.map fun x => scale * x).map V.int)) := upd_same
    generalize upd H11 p12 (HO.tup ((ns.map fun x => scale * x).map V.int)) = H12 at s12 e12 ⊢
    have rs : Row H12 p12 (ns.map fun x => scale * x) := by
      refine ⟨e12, fun y hy => ?_, by rw [List.length_map]; omega, ?_⟩
      · obtain ⟨z, hz, rfl⟩ := List.mem_map.mp hy
        have h1 := (r.2.1 z hz).1
        have h2 := hx z hz
        have u1 : 0 ≤ scale * z := Int.mul_nonneg (by omega) h1
        have u2 : scale * z ≤ 100 * z := Int.mul_le_mul_of_nonneg_right sc2 h1
        exact ⟨u1, by omega⟩
      · obtain ⟨z, hz, h0⟩ := r.2.2.2
        exact ⟨scale * z, List.mem_map.mpr ⟨z, hz, rfl⟩, Int.mul_pos (by omega) h0⟩
    have eg : (gl (ns.map fun x => scale * x) : Int) = scale * gl ns := by
      rw [gl_mul scale (by omega) (fun n hn => (r.2.1 n hn).1), Int.natCast_mul, Int.toNat_of_nonneg (by omega)]
    have ec : ((fewT (v2 (gl (ns.map fun x => scale * x))) (ns.map fun x => scale * x)).length : Nat) = cn := by
      rw [few_scale (by omega) (fun n hn => (r.2.1 n hn).1) r.2.2.2]; exact hcn
    obtain ⟨bo10, bz10⟩ := hB10.get
    have fin : ∀ {G : Hp}, Same H12 G → Box G b (n + 100) ∧ SX b H G := fun sm => by
      have sg := s12.trans sm
      exact ⟨(hB10.at (by rw [sg _ _ bz10, bz10])).le (by omega), X10.trans (.of_same sg)⟩
    refine ⟨.ref p12, rfl, p12, _, rfl, rs, fun p13 H13 np13 s13 e13 => ?_⟩
    have hdu13 := s13 _ _ (s12 _ _ hdu10)
    rw [etl] at hdu13
    refine ⟨p13, _, 0, .int (gl (ns.map fun x => scale * x)), rfl, rfl, SqL.of e13, atI_nat (j := 0) rfl, _, rfl, .ref du, rfl, du, _, 0, .int (gl ns), rfl, rfl, SqL.of hdu13, atI_nat (j := 0) rfl, scale, _, rfl, rfl, .inl ⟨by omega, by omega⟩, rfl, ?_⟩
    refine ⟨true, by rw [eg]; exact congrArg V.bl (decide_eq_true rfl), iteT ?_⟩
    refine ⟨.ref p12, rfl, p12, _, rfl, rs.same s13, fun p14 H14 np14 s14 e14 => ?_⟩
    refine ⟨p14, _, 3, .int ((fewT (v2 (gl (ns.map fun x => scale * x))) (ns.map fun x => scale * x)).length : Nat), rfl, rfl, SqL.of e14, atI_nat (j := 3) rfl, .int cn, rfl, rfl, ?_⟩
    rw [ec, decide_eq_true rfl]
    exact q _ (fin (s13.trans s14)).1 (fin (s13.trans s14)).2
end
end K03

namespace K03
open PySem PySem.Spec PyProof.Rows L2 MG
abbrev sLaw : Stmt := topS 19
abbrev nLaw : List Str := ["_law_script", "_law_nth", "_law_box_here", "_law_turn", "_law_number", "_law_some", "_law_one"]
theorem scLaw : FnScope ["_law_script", "_law_nth", "_law_box_here", "_law_turn", "_law_number", "_law_some", "_law_one"] ["_law_script"] (defScope sLaw) := ⟨rfl, rfl, rfl, by decide +kernel, rfl, by decide +kernel, by decide +kernel⟩
section
variable {P : Program} {w : World} {K : PySem.W.Frag} {mg : Str → Option Value} {base : Heap}
def spLaw (K : PySem.W.Frag) : Sp := fun vs H Q _ => ∃ (a : Addr) (ns : List Int), vs = [.ref a] ∧ SqL K H a (ns.map V.int) ∧ ns.length ≤ 63 ∧ ∀ H', Q (.bl true) H'
theorem ok_law {f fB fT fOf fN fR fL : Addr} {fd fdB fdT fdOf fdN fdR fdL : FuncData} {k : Nat} (F : Fun K "law" "law" sLaw f fd)
    (FB : Fun K "_law_box" "_law_box" sBox fB fdB) (bB : Binds K fdB ["_law_script", "_law_k"] []) (gB : mg "_law_box" = some (.ref fB)) (GB : FnOk P w K mg base CX0 (k + 1) fB fdB ["_law_script", "_law_k"] (spBox K))
    (FT : Fun K "_law_take" "_law_take" sTake fT fdT) (bT : Binds K fdT ["_law_box_here", "_law_many"] []) (gT : mg "_law_take" = some (.ref fT))
    (FOf : Fun K "_law_of" "_law_of" sOf fOf fdOf) (bOf : Binds K fdOf ["_law_box_here", "_law_some"] []) (gOf : mg "_law_of" = some (.ref fOf))
    (FN : Fun K "_law_number_right" "_law_number_right" sNumR fN fdN) (bN : Binds K fdN ["_law_number"] []) (gN : mg "_law_number_right" = some (.ref fN)) (GN : FnG P w K mg base (k + 3) fN fdN ["_law_number"] spNumR)
    (FR : Fun K "_law_right" "_law_right" sRight fR fdR) (bR : Binds K fdR ["_law_box_here", "_law_here"] []) (gR : mg "_law_right" = some (.ref fR)) (GR : FnG P w K mg base (k + 6) fR fdR ["_law_box_here", "_law_here"] spRight)
    (FL : Fun K "_law_line" "_law_line" sLine fL fdL) (bL : Binds K fdL ["_law_box_here", "_law_least", "_law_greatest", "_law_most"] []) (gL : mg "_law_line" = some (.ref fL)) (GL : FnOk P w K mg base CX0 (k + 3) fL fdL ["_law_box_here", "_law_least", "_law_greatest", "_law_most"] spLine)
    (ml : mg "len" = none) (mM : mg "max" = none) (mm : mg "min" = none) (mR : mg "range" = none) (mA : mg "all" = none) : FnG P w K mg base (k + 7) f fd ["_law_script"] (spLaw K) := by
  have GT : FnOk P w K mg base CX0 (k + 1) fT fdT ["_law_box_here", "_law_many"] spTake := ok_take FT
  have GOf : FnOk P w K mg base CX0 (k + 2) fOf fdOf ["_law_box_here", "_law_some"] spOf := ok_of FOf FT bT gT ml
  refine okG F scLaw (fun vs H Q E h => ?_) (fun cdv A outer s H vs Q E gd hr h => ?_)
  · obtain ⟨a, ns, rfl, _⟩ := h
    rfl
  · obtain ⟨a, ns, rfl, hS, hlen, q⟩ := h
    have hr1 := hr.mono (show k + 1 ≤ k + 6 by omega)
    have hr2 := hr.mono (show k + 2 ≤ k + 6 by omega)
    have hr3 := hr.mono (show k + 3 ≤ k + 6 by omega)
    refine ⟨_, (pss_cons (ps_for PassesOwn.never rfl (pi_range1 rfl mR (pa_cons (pe_callB (call_max2 rfl) (by rfl) mM (by decide +kernel) (pa_cons pe_int (pa_cons (pe_callB (call_min2 rfl) (by rfl) mm (by decide +kernel) (pa_cons pe_int (pa_cons (pe_callB call_len_seq (by rfl) ml PySem.boot_len (pa_cons (pv 0) pa_nil)) pa_nil))) pa_nil))) pa_nil)) (pg_name (i := 1) scLaw.nd rfl (.inl rfl))
        (pss_cons (ps_set (i := 2) scLaw.nd rfl (.inl rfl) (pe_call GB hr1 (by rfl) gB FB.kp bB .nil pass0 (pa_cons (pv 0) (pa_cons (pv 1) pa_nil))))
        (pss_cons (ps_for PassesOwn.never rfl (pi_range1 rfl mR (pa_cons pe_int pa_nil)) (pg_name (i := 3) scLaw.nd rfl (.inl rfl))
        (pss_cons (ps_set (i := 4) scLaw.nd rfl (.inl rfl) (pe_op op_mul (pe_op op_add pe_int (pe_op op_mul pe_int (pe_call GT hr1 (by rfl) gT FT.kp bT .nil pass0 (pa_cons (pv 2) (pa_cons (pe_op op_pow pe_int pe_int) pa_nil))))) (pe_call GOf hr2 (by rfl) gOf FOf.kp bOf .nil pass0 (pa_cons (pv 2) (pa_cons (pe_lst (pa_cons pe_int (pa_cons pe_int (pa_cons pe_int (pa_cons pe_int (pa_cons (pe_op op_pow pe_int pe_int) (pa_cons (pe_op op_pow pe_int pe_int) (pa_cons (pe_op op_pow pe_int pe_int) pa_nil)))))))) pa_nil)))))
        (pss_cons (ps_set (i := 5) scLaw.nd rfl (.inl rfl) (pe_lst (pa_cons (pv 4) (pa_cons (pe_op op_add (pv 4) pe_int) (pa_cons (pe_op op_add pe_int (pe_call GT hr1 (by rfl) gT FT.kp bT .nil pass0 (pa_cons (pv 2) (pa_cons (pe_op op_pow pe_int pe_int) pa_nil)))) (pa_cons (pe_call GOf hr2 (by rfl) gOf FOf.kp bOf .nil pass0 (pa_cons (pv 2) (pa_cons (pe_lst (pa_cons (pe_op op_mul (pe_op op_pow pe_int pe_int) (pe_op op_pow pe_int pe_int)) (pa_cons (pe_op op_pow pe_int pe_int) (pa_cons pe_int pa_nil)))) pa_nil))) (pa_cons pe_int pa_nil)))))))
        (pss_one (ps_if (pt_not (pt_val (pe_callB (cr_all rfl) (by rfl) mA (by decide +kernel) (pa_cons (pe_lc (own := [("_law_one", 6)]) (g := gName 6) (tt := tYes) rfl scLaw.nd (pi_list (pv 5)) (blkOk_by (N := nLaw) (sc := defScope sLaw) (by decide +kernel)) (fun _ _ _ _ _ => pg_name (i := 6) scLaw.nd rfl (Or.inl rfl)) (fun _ _ _ _ _ => pts_nil) (fun _ _ _ _ _ => pe_callG (E := E0) GN gd hr3 (by rfl) gN FN.kp bN (pa_cons (pv 6) pa_nil))) pa_nil)))) (pss_one (ps_ret pe_bl)) pss_nil)))))
        (pss_one (ps_for PassesOwn.never rfl (pi_range1 rfl mR (pa_cons pe_int pa_nil)) (pg_name (i := 3) scLaw.nd rfl (.inl rfl))
        (pss_one (ps_if (pt_not (pt_val (pe_callG (E := E0) GR gd hr (by rfl) gR FR.kp bR (pa_cons (pv 2) (pa_cons (pe_call GL hr3 (by rfl) gL FL.kp bL .nil pass0 (pa_cons (pv 2) (pa_cons pe_int (pa_cons pe_int (pa_cons (pe_call GOf hr2 (by rfl) gOf FOf.kp bOf .nil pass0 (pa_cons (pv 2) (pa_cons (pe_lst (pa_cons pe_int (pa_cons pe_int (pa_cons pe_int (pa_cons (pe_op op_pow pe_int pe_int) pa_nil))))) pa_nil))) pa_nil))))) pa_nil))))) (pss_one (ps_ret pe_bl)) pss_nil)))))))
        (pss_one (ps_ret pe_bl))), ?_⟩
    refine ⟨.ref a, rfl, a, _, rfl, .inl hS, 3, _, rfl, 1, _, rfl, _, rfl, ?_, ?_, ?_⟩
    · rw [List.length_map]; split <;> split <;> omega
    · rw [List.length_map]; split <;> split <;> omega
    refine for_range (lo := 0) (n := _) (fun _ σ H' => ∃ y1 y2 y3 y4 y5, σ = [some (.ref a), y1, y2, y3, y4, y5, none] ∧ Same H H') ?_ ?_ ?_
    · exact ⟨none, none, none, none, none, rfl, Same.refl H⟩
    rotate_left
    · rintro σ H' ⟨y1, y2, y3, y4, y5, rfl, sm⟩
      exact q H'
    rintro j σ G0 hj ⟨y1, y2, y3, y4, y5, rfl, s0⟩
    have hj3 : j < 3 := by
      refine Nat.lt_of_lt_of_le hj ?_
      rw [List.length_map]; split <;> split <;> omega
    refine ⟨.ref a, rfl, _, rfl, a, ns, 0 + (j : Int), rfl, s0.seq hS, by omega, by omega, fun b H1 nb s1 hB k1 => ?_⟩
    have keep : ∀ {G : Hp}, SX b H1 G → Same H G := fun x c o hc => x c o (ne_of_none (s0 _ _ hc) nb) (s1 _ _ (s0 _ _ hc))
    refine ⟨6, rfl, by decide, by decide, ?_⟩
    have cpow : ∀ {x y : Int}, 0 ≤ y → y ≤ 64 → 0 ≤ x → x ≤ 10 → CPow x y := fun h1 h2 h3 h4 => ⟨h1, by omega, by omega⟩
    refine for_range (lo := 0) (n := 6) (fun i σ H' => ∃ y3 y4 y5, σ = [some (.ref a), some (.int (0 + (j : Int))), some (.ref b), y3, y4, y5, none] ∧ SX b H1 H' ∧ Box H' b (4 * i)) ?_ ?_ ?_
    · exact ⟨y3, y4, y5, rfl, .refl b H1, hB⟩
    · rintro i σ H2 hi ⟨y3, y4, y5, rfl, x2, hB2⟩
      refine ⟨.ref b, rfl, 10, 12, rfl, rfl, cpow (by decide) (by decide) (by decide) (by decide), b, 10 ^ 12, 4 * i, rfl, hB2, by omega, by decide, by decide, fun r1 H3 r10 r11 hB3 k3 => ⟨2, r1, rfl, rfl, .inl ⟨by decide, by decide⟩, 1, _, rfl, rfl, ?_⟩⟩
      refine ⟨.ref b, rfl, 2, 27, rfl, rfl, cpow (by decide) (by decide) (by decide) (by decide), 2, 45, rfl, rfl, cpow (by decide) (by decide) (by decide) (by decide), 2, 58, rfl, rfl, cpow (by decide) (by decide) (by decide) (by decide), by show 7 ≤ sizeLine; decide, fun l1 nl1 => ?_⟩
      obtain ⟨o3, z3⟩ := hB3.get
      refine ⟨b, l1, 4 * i + 1, _, rfl, hB3.new nl1, by omega, upd_same, ne_of_none z3 nl1, by show 1 ≤ 7; decide, by show 7 ≤ 1000; decide, fun fac H4 hfac hB4 k4 => ?_⟩
      obtain ⟨fa, rfl, f1, f2⟩ : ∃ v : Int, fac = .int v ∧ 1 ≤ v ∧ v ≤ 2 ^ 58 := by
        simp only [List.mem_cons, List.not_mem_nil, or_false] at hfac
        rcases hfac with h | h | h | h | h | h | h <;> exact ⟨_, h, by decide, by decide⟩
      have x4 : SX b H1 H4 := ((x2.trans (.of_eq k3)).new nl1).trans (.of_eq k4)
      refine ⟨1 + 2 * r1, fa, rfl, rfl, .inl ⟨by omega, by omega⟩, ?_⟩
      have num0 : 0 < (1 + 2 * r1) * fa := Int.mul_pos (by omega) (by omega)
      have num1 : (1 + 2 * r1) * fa < 2 ^ 120 := by
        have u1 : (1 + 2 * r1) * fa ≤ (1 + 2 * r1) * 2 ^ 58 := Int.mul_le_mul_of_nonneg_left f2 (by omega)
        omega
      dsimp only
      generalize (1 + 2 * r1) * fa = num at num0 num1 ⊢
      refine ⟨_, rfl, _, rfl, num, 1, rfl, rfl, .ref b, rfl, 10, 29, rfl, rfl, cpow (by decide) (by decide) (by decide) (by decide), b, 10 ^ 29, 4 * i + 1 + 1, rfl, hB4, by omega, by decide, by decide, fun r5 H5 r50 r51 hB5 k5 => ⟨1, r5, rfl, rfl, ?_⟩⟩
      refine ⟨.ref b, rfl, 2, 49, rfl, rfl, cpow (by decide) (by decide) (by decide) (by decide), 2, 50, rfl, rfl, cpow (by decide) (by decide) (by decide) (by decide), _, _, rfl, rfl, .inl ⟨by decide, by decide⟩, 2, 64, rfl, rfl, cpow (by decide) (by decide) (by decide) (by decide), by show 3 ≤ sizeLine; decide, fun l2 nl2 => ?_⟩
      obtain ⟨o5, z5⟩ := hB5.get
      refine ⟨b, l2, 4 * i + 1 + 1 + 1, _, rfl, hB5.new nl2, by omega, upd_same, ne_of_none z5 nl2, by show 1 ≤ 3; decide, by show 3 ≤ 1000; decide, fun pw H6 hpw hB6 k6 => ?_⟩
      obtain ⟨pv6, rfl, p1, p2⟩ : ∃ v : Int, pw = .int v ∧ 1 ≤ v ∧ v ≤ 2 ^ 99 := by
        simp only [List.mem_cons, List.not_mem_nil, or_false] at hpw
        rcases hpw with h | h | h <;> exact ⟨_, h, by decide, by decide⟩
      have x6 : SX b H1 H6 := ((x4.trans (.of_eq k5)).new nl2).trans (.of_eq k6)
      refine ⟨by show 5 ≤ sizeLine; decide, fun so nso => ?_⟩
      have s7 : Same H6 (upd H6 so (.lst ([num, num + 1, 1 + r5, pv6, 1].map V.int))) := same_upd nso
      have e7 : upd H6 so (.lst ([num, num + 1, 1 + r5, pv6, 1].map V.int)) so = some (.lst ([num, num + 1, 1 + r5, pv6, 1].map V.int)) := upd_same
      have all5 : ∀ v ∈ [num, num + 1, 1 + r5, pv6, 1], 0 < v ∧ v < 2 ^ 250 := fun v hv => by
        simp only [List.mem_cons, List.not_mem_nil, or_false] at hv
        rcases hv with rfl | rfl | rfl | rfl | rfl <;> omega
      refine ⟨.ref so, rfl, so, rfl, ⟨_, SqL.of e7⟩, fun D nD => ?_⟩
      refine lc_list (K := K) (a := so) (xs := [num, num + 1, 1 + r5, pv6, 1].map V.int) (fun i H' => Same H6 H' ∧ H' so = some (.lst ([num, num + 1, 1 + r5, pv6, 1].map V.int)) ∧ H' D = some (.lst ((List.replicate i true).map V.bl))) ⟨s7.trans (same_upd nD), same_upd nD _ _ e7, upd_same⟩ ?_ ?_ ?_
      · rintro i' H' _ ⟨_, e, _⟩
        exact SqL.of e
      · rintro i' x H' hx ⟨sm, eso, hD⟩
        have hi' : i' < 5 := (List.getElem?_eq_some_iff.mp hx).1
        rw [List.getElem?_map] at hx
        obtain ⟨v, hv, rfl⟩ := Option.map_eq_some_iff.mp hx
        have hv' := all5 v (List.mem_of_getElem? hv)
        refine ⟨rfl, _, rfl, v, rfl, hv'.1, hv'.2, fun H'' s'' => ?_⟩
        have nDs : so ≠ D := ne_of_none e7 nD
        refine ⟨_, s'' _ _ hD, ?_, ?_, ?_, ?_⟩
        · rw [List.length_map, List.length_replicate]
          exact small1000 (by omega)
        · intro c o hc
          rw [upd_ne (ne_of_none (s7 _ _ hc) nD)]
          exact s'' _ _ (sm c o hc)
        · rw [upd_ne nDs]; exact s'' _ _ eso
        · rw [upd_same, List.replicate_succ', List.map_append]
          rfl
      · rintro H8 ⟨sm, _, hD⟩
        refine ⟨D, List.replicate 5 true, rfl, SqL.of hD, _, rfl, iteF ⟨_, _, _, rfl, x6.trans (.of_same sm), ?_⟩⟩
        obtain ⟨o6, z6⟩ := hB6.get
        exact (hB6.at (by rw [sm _ _ z6, z6])).le (by omega)
    rintro σ H2 ⟨y3, y4, y5, rfl, x2, hB2⟩
    refine ⟨6, rfl, by decide, by decide, ?_⟩
    refine for_range (lo := 0) (n := 6) (fun i σ H' => ∃ y3, σ = [some (.ref a), some (.int (0 + (j : Int))), some (.ref b), y3, y4, y5, none] ∧ SX b H1 H' ∧ Box H' b (30 + 300 * i)) ?_ ?_ ?_
    · exact ⟨_, rfl, x2, hB2.le (by omega)⟩
    · rintro i σ H3 hi ⟨y3, rfl, x3, hB3⟩
      refine ⟨.ref b, rfl, .ref b, rfl, .ref b, rfl, 10, 26, rfl, rfl, cpow (by decide) (by decide) (by decide) (by decide), by show 4 ≤ sizeLine; decide, fun l nl => ?_⟩
      obtain ⟨o3, z3⟩ := hB3.get
      refine ⟨b, l, 30 + 300 * i, _, rfl, hB3.new nl, by omega, upd_same, ne_of_none z3 nl, by show 1 ≤ 4; decide, by show 4 ≤ 1000; decide, fun mo H4 hmo hB4 k4 => ?_⟩
      obtain ⟨most, rfl, m1, m2⟩ : ∃ v : Int, mo = .int v ∧ 1 ≤ v ∧ v ≤ 10 ^ 26 := by
        simp only [List.mem_cons, List.not_mem_nil, or_false] at hmo
        rcases hmo with h | h | h | h <;> exact ⟨_, h, by decide, by decide⟩
      have x4 : SX b H1 H4 := (x3.new nl).trans (.of_eq k4)
      refine ⟨b, 1, 7, most, 30 + 300 * i + 1, rfl, hB4, by omega, by decide, by decide, by decide, m1, by omega, fun p H5 ns5 np l1 l2 hx5 hp5 hB5 x5 e5 => ?_⟩
      refine ⟨b, p, ns5, 30 + 300 * i + 1 + 100, rfl, hB5, by omega, ⟨e5, fun y hy => ⟨(hx5 y hy).1, by have := (hx5 y hy).2; omega⟩, by omega, hp5⟩, fun y hy => (hx5 y hy).2, by omega, fun H6 hB6 x6 => ?_⟩
      refine ⟨true, rfl, iteF ⟨_, rfl, (x4.trans x5).trans x6, hB6.le (by omega)⟩⟩
    rintro σ H3 ⟨y3, rfl, x3, hB3⟩
    exact ⟨_, _, _, _, _, rfl, keep x3⟩
end
end K03

namespace K03
open PySem PySem.Spec PyProof.Rows L2 MG
theorem all_mk {l : PySem.W.OpenLaw} {w : World} {K : PySem.W.Frag} {h : Heap} {mg : Str → Option Value} {fa : Addr} (X : K.In h) (G : h.Ns mainGlobals mg) (hfa : mg "law" = some (.ref fa))
    {fTwosIn : Addr} {odTwosIn anTwosIn : Option Addr} {slTwosIn : Array (Option Value)} {ocTwosIn kVTwosIn dcTwosIn pmTwosIn cdTwosIn ctTwosIn : Value}
    (aTwosIn : PySem.W.nsIn K mainGlobals "twos_in" = some (some (.ref fTwosIn))) (lTwosIn : K.lookup fTwosIn = some ⟨ocTwosIn, odTwosIn, .func (PySem.W.fnOf "twos_in" "twos_in" (defArgs sTwosIn) (defBody sTwosIn) (defScope sTwosIn) .none kVTwosIn dcTwosIn pmTwosIn anTwosIn cdTwosIn ctTwosIn), slTwosIn⟩) (cTwosIn : PySem.W.codeIn K cdTwosIn "twos_in" = true) (kTwosIn : PySem.W.keepIn K (.ref fTwosIn) = true)
    {fOddPart : Addr} {odOddPart anOddPart : Option Addr} {slOddPart : Array (Option Value)} {ocOddPart kVOddPart dcOddPart pmOddPart cdOddPart ctOddPart : Value}
    (aOddPart : PySem.W.nsIn K mainGlobals "odd_part" = some (some (.ref fOddPart))) (lOddPart : K.lookup fOddPart = some ⟨ocOddPart, odOddPart, .func (PySem.W.fnOf "odd_part" "odd_part" (defArgs sOddPart) (defBody sOddPart) (defScope sOddPart) .none kVOddPart dcOddPart pmOddPart anOddPart cdOddPart ctOddPart), slOddPart⟩) (cOddPart : PySem.W.codeIn K cdOddPart "odd_part" = true) (kOddPart : PySem.W.keepIn K (.ref fOddPart) = true)
    {fCommon : Addr} {odCommon anCommon : Option Addr} {slCommon : Array (Option Value)} {ocCommon kVCommon dcCommon pmCommon cdCommon ctCommon : Value}
    (aCommon : PySem.W.nsIn K mainGlobals "common_part" = some (some (.ref fCommon))) (lCommon : K.lookup fCommon = some ⟨ocCommon, odCommon, .func (PySem.W.fnOf "common_part" "common_part" (defArgs sCommon) (defBody sCommon) (defScope sCommon) .none kVCommon dcCommon pmCommon anCommon cdCommon ctCommon), slCommon⟩) (cCommon : PySem.W.codeIn K cdCommon "common_part" = true) (kCommon : PySem.W.keepIn K (.ref fCommon) = true)
    {fUnit : Addr} {odUnit anUnit : Option Addr} {slUnit : Array (Option Value)} {ocUnit kVUnit dcUnit pmUnit cdUnit ctUnit : Value}
    (aUnit : PySem.W.nsIn K mainGlobals "unit" = some (some (.ref fUnit))) (lUnit : K.lookup fUnit = some ⟨ocUnit, odUnit, .func (PySem.W.fnOf "unit" "unit" (defArgs sUnit) (defBody sUnit) (defScope sUnit) .none kVUnit dcUnit pmUnit anUnit cdUnit ctUnit), slUnit⟩) (cUnit : PySem.W.codeIn K cdUnit "unit" = true) (kUnit : PySem.W.keepIn K (.ref fUnit) = true)
    {fMeasure : Addr} {odMeasure anMeasure : Option Addr} {slMeasure : Array (Option Value)} {ocMeasure kVMeasure dcMeasure pmMeasure cdMeasure ctMeasure : Value}
    (aMeasure : PySem.W.nsIn K mainGlobals "measure" = some (some (.ref fMeasure))) (lMeasure : K.lookup fMeasure = some ⟨ocMeasure, odMeasure, .func (PySem.W.fnOf "measure" "measure" (defArgs sMeasure) (defBody sMeasure) (defScope sMeasure) .none kVMeasure dcMeasure pmMeasure anMeasure cdMeasure ctMeasure), slMeasure⟩) (cMeasure : PySem.W.codeIn K cdMeasure "measure" = true) (kMeasure : PySem.W.keepIn K (.ref fMeasure) = true)
    {fTwos : Addr} {odTwos anTwos : Option Addr} {slTwos : Array (Option Value)} {ocTwos kVTwos dcTwos pmTwos cdTwos ctTwos : Value}
    (aTwos : PySem.W.nsIn K mainGlobals "twos" = some (some (.ref fTwos))) (lTwos : K.lookup fTwos = some ⟨ocTwos, odTwos, .func (PySem.W.fnOf "twos" "twos" (defArgs sTwos) (defBody sTwos) (defScope sTwos) .none kVTwos dcTwos pmTwos anTwos cdTwos ctTwos), slTwos⟩) (cTwos : PySem.W.codeIn K cdTwos "twos" = true) (kTwos : PySem.W.keepIn K (.ref fTwos) = true)
    {fOddOnes : Addr} {odOddOnes anOddOnes : Option Addr} {slOddOnes : Array (Option Value)} {ocOddOnes kVOddOnes dcOddOnes pmOddOnes cdOddOnes ctOddOnes : Value}
    (aOddOnes : PySem.W.nsIn K mainGlobals "odd_ones" = some (some (.ref fOddOnes))) (lOddOnes : K.lookup fOddOnes = some ⟨ocOddOnes, odOddOnes, .func (PySem.W.fnOf "odd_ones" "odd_ones" (defArgs sOddOnes) (defBody sOddOnes) (defScope sOddOnes) .none kVOddOnes dcOddOnes pmOddOnes anOddOnes cdOddOnes ctOddOnes), slOddOnes⟩) (cOddOnes : PySem.W.codeIn K cdOddOnes "odd_ones" = true) (kOddOnes : PySem.W.keepIn K (.ref fOddOnes) = true)
    {fBox : Addr} {odBox anBox : Option Addr} {slBox : Array (Option Value)} {ocBox kVBox dcBox pmBox cdBox ctBox : Value}
    (aBox : PySem.W.nsIn K mainGlobals "_law_box" = some (some (.ref fBox))) (lBox : K.lookup fBox = some ⟨ocBox, odBox, .func (PySem.W.fnOf "_law_box" "_law_box" (defArgs sBox) (defBody sBox) (defScope sBox) .none kVBox dcBox pmBox anBox cdBox ctBox), slBox⟩) (cBox : PySem.W.codeIn K cdBox "_law_box" = true) (kBox : PySem.W.keepIn K (.ref fBox) = true)
    {fTake : Addr} {odTake anTake : Option Addr} {slTake : Array (Option Value)} {ocTake kVTake dcTake pmTake cdTake ctTake : Value}
    (aTake : PySem.W.nsIn K mainGlobals "_law_take" = some (some (.ref fTake))) (lTake : K.lookup fTake = some ⟨ocTake, odTake, .func (PySem.W.fnOf "_law_take" "_law_take" (defArgs sTake) (defBody sTake) (defScope sTake) .none kVTake dcTake pmTake anTake cdTake ctTake), slTake⟩) (cTake : PySem.W.codeIn K cdTake "_law_take" = true) (kTake : PySem.W.keepIn K (.ref fTake) = true)
    {fOf : Addr} {odOf anOf : Option Addr} {slOf : Array (Option Value)} {ocOf kVOf dcOf pmOf cdOf ctOf : Value}
    (aOf : PySem.W.nsIn K mainGlobals "_law_of" = some (some (.ref fOf))) (lOf : K.lookup fOf = some ⟨ocOf, odOf, .func (PySem.W.fnOf "_law_of" "_law_of" (defArgs sOf) (defBody sOf) (defScope sOf) .none kVOf dcOf pmOf anOf cdOf ctOf), slOf⟩) (cOf : PySem.W.codeIn K cdOf "_law_of" = true) (kOf : PySem.W.keepIn K (.ref fOf) = true)
    {fSplit : Addr} {odSplit anSplit : Option Addr} {slSplit : Array (Option Value)} {ocSplit kVSplit dcSplit pmSplit cdSplit ctSplit : Value}
    (aSplit : PySem.W.nsIn K mainGlobals "_law_split" = some (some (.ref fSplit))) (lSplit : K.lookup fSplit = some ⟨ocSplit, odSplit, .func (PySem.W.fnOf "_law_split" "_law_split" (defArgs sSplit) (defBody sSplit) (defScope sSplit) .none kVSplit dcSplit pmSplit anSplit cdSplit ctSplit), slSplit⟩) (cSplit : PySem.W.codeIn K cdSplit "_law_split" = true) (kSplit : PySem.W.keepIn K (.ref fSplit) = true)
    {fPlaces : Addr} {odPlaces anPlaces : Option Addr} {slPlaces : Array (Option Value)} {ocPlaces kVPlaces dcPlaces pmPlaces cdPlaces ctPlaces : Value}
    (aPlaces : PySem.W.nsIn K mainGlobals "_law_places" = some (some (.ref fPlaces))) (lPlaces : K.lookup fPlaces = some ⟨ocPlaces, odPlaces, .func (PySem.W.fnOf "_law_places" "_law_places" (defArgs sPlaces) (defBody sPlaces) (defScope sPlaces) .none kVPlaces dcPlaces pmPlaces anPlaces cdPlaces ctPlaces), slPlaces⟩) (cPlaces : PySem.W.codeIn K cdPlaces "_law_places" = true) (kPlaces : PySem.W.keepIn K (.ref fPlaces) = true)
    {fLine : Addr} {odLine anLine : Option Addr} {slLine : Array (Option Value)} {ocLine kVLine dcLine pmLine cdLine ctLine : Value}
    (aLine : PySem.W.nsIn K mainGlobals "_law_line" = some (some (.ref fLine))) (lLine : K.lookup fLine = some ⟨ocLine, odLine, .func (PySem.W.fnOf "_law_line" "_law_line" (defArgs sLine) (defBody sLine) (defScope sLine) .none kVLine dcLine pmLine anLine cdLine ctLine), slLine⟩) (cLine : PySem.W.codeIn K cdLine "_law_line" = true) (kLine : PySem.W.keepIn K (.ref fLine) = true)
    {fStays : Addr} {odStays anStays : Option Addr} {slStays : Array (Option Value)} {ocStays kVStays dcStays pmStays cdStays ctStays : Value}
    (aStays : PySem.W.nsIn K mainGlobals "_law_stays" = some (some (.ref fStays))) (lStays : K.lookup fStays = some ⟨ocStays, odStays, .func (PySem.W.fnOf "_law_stays" "_law_stays" (defArgs sStays) (defBody sStays) (defScope sStays) .none kVStays dcStays pmStays anStays cdStays ctStays), slStays⟩) (cStays : PySem.W.codeIn K cdStays "_law_stays" = true) (kStays : PySem.W.keepIn K (.ref fStays) = true)
    {fNumR : Addr} {odNumR anNumR : Option Addr} {slNumR : Array (Option Value)} {ocNumR kVNumR dcNumR pmNumR cdNumR ctNumR : Value}
    (aNumR : PySem.W.nsIn K mainGlobals "_law_number_right" = some (some (.ref fNumR))) (lNumR : K.lookup fNumR = some ⟨ocNumR, odNumR, .func (PySem.W.fnOf "_law_number_right" "_law_number_right" (defArgs sNumR) (defBody sNumR) (defScope sNumR) .none kVNumR dcNumR pmNumR anNumR cdNumR ctNumR), slNumR⟩) (cNumR : PySem.W.codeIn K cdNumR "_law_number_right" = true) (kNumR : PySem.W.keepIn K (.ref fNumR) = true)
    {fTold : Addr} {odTold anTold : Option Addr} {slTold : Array (Option Value)} {ocTold kVTold dcTold pmTold cdTold ctTold : Value}
    (aTold : PySem.W.nsIn K mainGlobals "_law_told" = some (some (.ref fTold))) (lTold : K.lookup fTold = some ⟨ocTold, odTold, .func (PySem.W.fnOf "_law_told" "_law_told" (defArgs sTold) (defBody sTold) (defScope sTold) .none kVTold dcTold pmTold anTold cdTold ctTold), slTold⟩) (cTold : PySem.W.codeIn K cdTold "_law_told" = true) (kTold : PySem.W.keepIn K (.ref fTold) = true)
    {fRight : Addr} {odRight anRight : Option Addr} {slRight : Array (Option Value)} {ocRight kVRight dcRight pmRight cdRight ctRight : Value}
    (aRight : PySem.W.nsIn K mainGlobals "_law_right" = some (some (.ref fRight))) (lRight : K.lookup fRight = some ⟨ocRight, odRight, .func (PySem.W.fnOf "_law_right" "_law_right" (defArgs sRight) (defBody sRight) (defScope sRight) .none kVRight dcRight pmRight anRight cdRight ctRight), slRight⟩) (cRight : PySem.W.codeIn K cdRight "_law_right" = true) (kRight : PySem.W.keepIn K (.ref fRight) = true)
    {fLaw : Addr} {odLaw anLaw : Option Addr} {slLaw : Array (Option Value)} {ocLaw kVLaw dcLaw pmLaw cdLaw ctLaw : Value}
    (aLaw : PySem.W.nsIn K mainGlobals "law" = some (some (.ref fLaw))) (lLaw : K.lookup fLaw = some ⟨ocLaw, odLaw, .func (PySem.W.fnOf "law" "law" (defArgs sLaw) (defBody sLaw) (defScope sLaw) .none kVLaw dcLaw pmLaw anLaw cdLaw ctLaw), slLaw⟩) (cLaw : PySem.W.codeIn K cdLaw "law" = true) (kLaw : PySem.W.keepIn K (.ref fLaw) = true)
    (z_len : PySem.W.nsIn K mainGlobals "len" = some none)
    (z_abs : PySem.W.nsIn K mainGlobals "abs" = some none)
    (z_int : PySem.W.nsIn K mainGlobals "int" = some none)
    (z_range : PySem.W.nsIn K mainGlobals "range" = some none)
    (z_list : PySem.W.nsIn K mainGlobals "list" = some none)
    (z_tuple : PySem.W.nsIn K mainGlobals "tuple" = some none)
    (z_max : PySem.W.nsIn K mainGlobals "max" = some none)
    (z_min : PySem.W.nsIn K mainGlobals "min" = some none)
    (z_sum : PySem.W.nsIn K mainGlobals "sum" = some none)
    (z_repr : PySem.W.nsIn K mainGlobals "repr" = some none)
    (z_all : PySem.W.nsIn K mainGlobals "all" = some none)
    : ∃ fd : FuncData, (∀ (s : Shared) (v : Value), BindsTo s fd ⟨[v], []⟩ [("_law_script", v)]) ∧ ∀ base : Heap, K.In base → base.Ns mainGlobals mg → SysD base → FnG l.prog w K mg base 7 fa fd ["_law_script"] (spLaw K) := by
  have e := hfa.symm.trans (PySem.W.mg_of X G aLaw)
  cases e
  have FTwosIn := fun_mk (st := sTwosIn) lTwosIn cTwosIn kTwosIn
  have bTwosIn := FTwosIn.binds (ps := ["n"]) fun _ _ _ _ _ _ us hl => match us, hl with | [_], _ => rfl
  have gTwosIn := PySem.W.mg_of X G aTwosIn
  have kbTwosIn : KB K _ ["n"] := kb_of FTwosIn fun _ _ _ _ _ _ us hl => match us, hl with | [_], _ => rfl
  have FOddPart := fun_mk (st := sOddPart) lOddPart cOddPart kOddPart
  have bOddPart := FOddPart.binds (ps := ["n"]) fun _ _ _ _ _ _ us hl => match us, hl with | [_], _ => rfl
  have gOddPart := PySem.W.mg_of X G aOddPart
  have kbOddPart : KB K _ ["n"] := kb_of FOddPart fun _ _ _ _ _ _ us hl => match us, hl with | [_], _ => rfl
  have FCommon := fun_mk (st := sCommon) lCommon cCommon kCommon
  have bCommon := FCommon.binds (ps := ["a", "b"]) fun _ _ _ _ _ _ us hl => match us, hl with | [_, _], _ => rfl
  have gCommon := PySem.W.mg_of X G aCommon
  have FUnit := fun_mk (st := sUnit) lUnit cUnit kUnit
  have bUnit := FUnit.binds (ps := ["row"]) fun _ _ _ _ _ _ us hl => match us, hl with | [_], _ => rfl
  have gUnit := PySem.W.mg_of X G aUnit
  have kbUnit : KB K _ ["row"] := kb_of FUnit fun _ _ _ _ _ _ us hl => match us, hl with | [_], _ => rfl
  have FMeasure := fun_mk (st := sMeasure) lMeasure cMeasure kMeasure
  have bMeasure := FMeasure.binds (ps := ["row"]) fun _ _ _ _ _ _ us hl => match us, hl with | [_], _ => rfl
  have gMeasure := PySem.W.mg_of X G aMeasure
  have kbMeasure : KB K _ ["row"] := kb_of FMeasure fun _ _ _ _ _ _ us hl => match us, hl with | [_], _ => rfl
  have FTwos := fun_mk (st := sTwos) lTwos cTwos kTwos
  have bTwos := FTwos.binds (ps := ["row"]) fun _ _ _ _ _ _ us hl => match us, hl with | [_], _ => rfl
  have gTwos := PySem.W.mg_of X G aTwos
  have kbTwos : KB K _ ["row"] := kb_of FTwos fun _ _ _ _ _ _ us hl => match us, hl with | [_], _ => rfl
  have FOddOnes := fun_mk (st := sOddOnes) lOddOnes cOddOnes kOddOnes
  have bOddOnes := FOddOnes.binds (ps := ["row"]) fun _ _ _ _ _ _ us hl => match us, hl with | [_], _ => rfl
  have gOddOnes := PySem.W.mg_of X G aOddOnes
  have kbOddOnes : KB K _ ["row"] := kb_of FOddOnes fun _ _ _ _ _ _ us hl => match us, hl with | [_], _ => rfl
  have FBox := fun_mk (st := sBox) lBox cBox kBox
  have bBox := FBox.binds (ps := ["_law_script", "_law_k"]) fun _ _ _ _ _ _ us hl => match us, hl with | [_, _], _ => rfl
  have gBox := PySem.W.mg_of X G aBox
  have FTake := fun_mk (st := sTake) lTake cTake kTake
  have bTake := FTake.binds (ps := ["_law_box_here", "_law_many"]) fun _ _ _ _ _ _ us hl => match us, hl with | [_, _], _ => rfl
  have gTake := PySem.W.mg_of X G aTake
  have FOf := fun_mk (st := sOf) lOf cOf kOf
  have bOf := FOf.binds (ps := ["_law_box_here", "_law_some"]) fun _ _ _ _ _ _ us hl => match us, hl with | [_, _], _ => rfl
  have gOf := PySem.W.mg_of X G aOf
  have FSplit := fun_mk (st := sSplit) lSplit cSplit kSplit
  have bSplit := FSplit.binds (ps := ["_law_box_here", "_law_total", "_law_many"]) fun _ _ _ _ _ _ us hl => match us, hl with | [_, _, _], _ => rfl
  have gSplit := PySem.W.mg_of X G aSplit
  have FPlaces := fun_mk (st := sPlaces) lPlaces cPlaces kPlaces
  have bPlaces := FPlaces.binds (ps := ["_law_box_here", "_law_amounts", "_law_nothing"]) fun _ _ _ _ _ _ us hl => match us, hl with | [_, _, _], _ => rfl
  have gPlaces := PySem.W.mg_of X G aPlaces
  have FLine := fun_mk (st := sLine) lLine cLine kLine
  have bLine := FLine.binds (ps := ["_law_box_here", "_law_least", "_law_greatest", "_law_most"]) fun _ _ _ _ _ _ us hl => match us, hl with | [_, _, _, _], _ => rfl
  have gLine := PySem.W.mg_of X G aLine
  have FStays := fun_mk (st := sStays) lStays cStays kStays
  have bStays := FStays.binds (ps := ["_law_here"]) fun _ _ _ _ _ _ us hl => match us, hl with | [_], _ => rfl
  have gStays := PySem.W.mg_of X G aStays
  have FNumR := fun_mk (st := sNumR) lNumR cNumR kNumR
  have bNumR := FNumR.binds (ps := ["_law_number"]) fun _ _ _ _ _ _ us hl => match us, hl with | [_], _ => rfl
  have gNumR := PySem.W.mg_of X G aNumR
  have FTold := fun_mk (st := sTold) lTold cTold kTold
  have bTold := FTold.binds (ps := ["_law_here"]) fun _ _ _ _ _ _ us hl => match us, hl with | [_], _ => rfl
  have gTold := PySem.W.mg_of X G aTold
  have FRight := fun_mk (st := sRight) lRight cRight kRight
  have bRight := FRight.binds (ps := ["_law_box_here", "_law_here"]) fun _ _ _ _ _ _ us hl => match us, hl with | [_, _], _ => rfl
  have gRight := PySem.W.mg_of X G aRight
  have FLaw := fun_mk (st := sLaw) lLaw cLaw kLaw
  have m_len := PySem.W.mg_none_of X G z_len
  have m_abs := PySem.W.mg_none_of X G z_abs
  have m_int := PySem.W.mg_none_of X G z_int
  have m_range := PySem.W.mg_none_of X G z_range
  have m_list := PySem.W.mg_none_of X G z_list
  have m_tuple := PySem.W.mg_none_of X G z_tuple
  have m_max := PySem.W.mg_none_of X G z_max
  have m_min := PySem.W.mg_none_of X G z_min
  have m_sum := PySem.W.mg_none_of X G z_sum
  have m_repr := PySem.W.mg_none_of X G z_repr
  have m_all := PySem.W.mg_none_of X G z_all
  refine ⟨PySem.W.fnOf "law" "law" (defArgs sLaw) (defBody sLaw) (defScope sLaw) .none kVLaw dcLaw pmLaw anLaw cdLaw ctLaw, fun s v => .of_eq rfl, fun base _ _ sys => ?_⟩
  have GTwosIn := ok_twosIn (mg := mg) (P := l.prog) (w := w) (base := base) (k := 0) FTwosIn
  have GOddPart := ok_oddPart (P := l.prog) (w := w) (base := base) (k := 0) FOddPart FTwosIn bTwosIn gTwosIn
  have GUnit := ok_unit (P := l.prog) (w := w) (base := base) (k := 0) FUnit FCommon bCommon gCommon
  have GMeasure := ok_measure (P := l.prog) (w := w) (base := base) (k := 0) FMeasure FOddPart bOddPart gOddPart GOddPart FUnit bUnit gUnit GUnit
  have GTwos := ok_twos (P := l.prog) (w := w) (base := base) (k := 0) FTwos FTwosIn bTwosIn gTwosIn GTwosIn FUnit bUnit gUnit GUnit
  have GOddOnes := ok_oddOnes (P := l.prog) (w := w) (base := base) (k := 0) FOddOnes FTwosIn bTwosIn gTwosIn GTwosIn FTwos bTwos gTwos GTwos m_len
  have GBox := ok_box (P := l.prog) (w := w) (base := base) (k := 0) FBox m_len m_abs m_int
  have GSplit := ok_split (P := l.prog) (w := w) (base := base) (k := 0) FSplit FTake bTake gTake m_range
  have GPlaces := ok_places (P := l.prog) (w := w) (base := base) (k := 0) FPlaces FTake bTake gTake m_len m_list m_tuple
  have GLine := ok_line (P := l.prog) (w := w) (base := base) (k := 0) FLine FTake bTake gTake FOf bOf gOf FSplit bSplit gSplit GSplit FPlaces bPlaces gPlaces GPlaces m_len m_max
  have GStays := ok_stays (P := l.prog) (w := w) (base := base) (k := 0) FStays m_len m_sum
  have GNumR := ok_numR (P := l.prog) (w := w) (base := base) (k := 0) sys FNumR FTwosIn bTwosIn kbTwosIn gTwosIn GTwosIn FOddPart bOddPart kbOddPart gOddPart GOddPart m_repr
  have GTold := ok_told (P := l.prog) (w := w) (base := base) (k := 0) FTold FUnit bUnit gUnit GUnit FMeasure bMeasure gMeasure GMeasure FTwos bTwos gTwos GTwos FOddOnes bOddOnes gOddOnes GOddOnes
  have GRight := ok_right (P := l.prog) (w := w) (base := base) (k := 0) sys FRight FTake bTake gTake FOf bOf gOf FPlaces bPlaces gPlaces GPlaces FStays bStays gStays GStays FTold bTold gTold GTold FUnit kbUnit gUnit GUnit FMeasure kbMeasure gMeasure GMeasure FTwos kbTwos gTwos GTwos FOddOnes kbOddOnes gOddOnes GOddOnes m_repr m_range m_tuple m_len
  exact ok_law (k := 0) FLaw FBox bBox gBox GBox FTake bTake gTake FOf bOf gOf FNumR bNumR gNumR GNumR FRight bRight gRight GRight FLine bLine gLine GLine m_len m_max m_min m_range m_all
end K03
open PySem PySem.W PyProof.Rows
set_option maxHeartbeats 0 in
theorem PySem.Challenge.cw_matchgift_k03_what_parts_them_holds : PySem.Challenge.rw_matchgift_k03_what_parts_them.Holds := by
  w_on; o_law; k_head; (case hw => w_witness2)
  k_fill
  refine MG.walkG (l := PySem.Challenge.rw_matchgift_k03_what_parts_them) (n := 63) (k := 7) (x := "_law_script") (sp := K03.spLaw) rfl (by decide) rfl ⟨rfl, by decide, by decide⟩ (by decide +kernel) (fun w h Y => PySem.W.kIn_of Y) ?F (fun _ _ a ns hl _ hS => ⟨a, ns, rfl, hS, hl, fun _ => rfl⟩)
  case F =>
    intro w mg fa h KX G hmg
    refine' K03.all_mk KX G hmg ?aTwosIn ?lTwosIn ?cTwosIn ?kTwosIn ?aOddPart ?lOddPart ?cOddPart ?kOddPart ?aCommon ?lCommon ?cCommon ?kCommon ?aUnit ?lUnit ?cUnit ?kUnit ?aMeasure ?lMeasure ?cMeasure ?kMeasure ?aTwos ?lTwos ?cTwos ?kTwos ?aOddOnes ?lOddOnes ?cOddOnes ?kOddOnes ?aBox ?lBox ?cBox ?kBox ?aTake ?lTake ?cTake ?kTake ?aOf ?lOf ?cOf ?kOf ?aSplit ?lSplit ?cSplit ?kSplit ?aPlaces ?lPlaces ?cPlaces ?kPlaces ?aLine ?lLine ?cLine ?kLine ?aStays ?lStays ?cStays ?kStays ?aNumR ?lNumR ?cNumR ?kNumR ?aTold ?lTold ?cTold ?kTold ?aRight ?lRight ?cRight ?kRight ?aLaw ?lLaw ?cLaw ?kLaw ?z_len ?z_abs ?z_int ?z_range ?z_list ?z_tuple ?z_max ?z_min ?z_sum ?z_repr ?z_all
    (case aTwosIn => k_is); (case lTwosIn => k_is); (case cTwosIn => k_is); (case kTwosIn => k_is); (case aOddPart => k_is); (case lOddPart => k_is); (case cOddPart => k_is); (case kOddPart => k_is); (case aCommon => k_is); (case lCommon => k_is); (case cCommon => k_is); (case kCommon => k_is); (case aUnit => k_is); (case lUnit => k_is); (case cUnit => k_is); (case kUnit => k_is); (case aMeasure => k_is); (case lMeasure => k_is); (case cMeasure => k_is); (case kMeasure => k_is); (case aTwos => k_is); (case lTwos => k_is); (case cTwos => k_is); (case kTwos => k_is); (case aOddOnes => k_is); (case lOddOnes => k_is); (case cOddOnes => k_is); (case kOddOnes => k_is); (case aBox => k_is); (case lBox => k_is); (case cBox => k_is); (case kBox => k_is); (case aTake => k_is); (case lTake => k_is); (case cTake => k_is); (case kTake => k_is); (case aOf => k_is); (case lOf => k_is); (case cOf => k_is); (case kOf => k_is); (case aSplit => k_is); (case lSplit => k_is); (case cSplit => k_is); (case kSplit => k_is); (case aPlaces => k_is); (case lPlaces => k_is); (case cPlaces => k_is); (case kPlaces => k_is); (case aLine => k_is); (case lLine => k_is); (case cLine => k_is); (case kLine => k_is); (case aStays => k_is); (case lStays => k_is); (case cStays => k_is); (case kStays => k_is); (case aNumR => k_is); (case lNumR => k_is); (case cNumR => k_is); (case kNumR => k_is); (case aTold => k_is); (case lTold => k_is); (case cTold => k_is); (case kTold => k_is); (case aRight => k_is); (case lRight => k_is); (case cRight => k_is); (case kRight => k_is); (case aLaw => k_is); (case lLaw => k_is); (case cLaw => k_is); (case kLaw => k_is); (case z_len => k_is); (case z_abs => k_is); (case z_int => k_is); (case z_range => k_is); (case z_list => k_is); (case z_tuple => k_is); (case z_max => k_is); (case z_min => k_is); (case z_sum => k_is); (case z_repr => k_is); (case z_all => k_is)
